/-
  girdlelaw04.RatioOrders, as a walk: whatever the two ratios, it returns true.
-/
import Derived.Test.YtggnjlbnfgjgdaaM20
import Derived.Test.YtggnjlbnfgjgdaaM29

namespace Go.Proofs.Ytggnjlbnfgjgdaa
open Go.RowKit

set_option maxRecDepth 100000 in
set_option maxHeartbeats 16000000 in
theorem ratioOrders_any (bA : Bool) (pA qA : Option Addr) (KA JA : Nat) (dsA esA : List Nat) (bB : Bool) (pB qB : Option Addr) (KB JB : Nat) (dsB esB : List Nat) (w : World) (atA : At .u32 w pA KA dsA) (ctA : At .u32 w qA JA esA) (ddA : Dig 4294967296 dsA) (deA : Dig 4294967296 esA) (atB : At .u32 w pB KB dsB) (ctB : At .u32 w qB JB esB) (ddB : Dig 4294967296 dsB) (deB : Dig 4294967296 esB) :
    Calls Try.prog 5 #[.agg #[.bool bA, .slice pA dsA.length KA, .slice qA esA.length JA], .agg #[.bool bB, .slice pB dsB.length KB, .slice qB esB.length JB]] w fun e w' => e = .returned (.bool true) ∧ Below w.heap.size w w' := by
  have HDA := Lib.hid (And.intro ddA deA)
  obtain ⟨lA, hlA⟩ : ∃ l, dsA.length = l := ⟨_, rfl⟩
  obtain ⟨jA, hjA⟩ : ∃ l, esA.length = l := ⟨_, rfl⟩
  have HLA := Lib.hid (And.intro hlA hjA)
  rw [hlA, hjA]
  have HDB := Lib.hid (And.intro ddB deB)
  obtain ⟨lB, hlB⟩ : ∃ l, dsB.length = l := ⟨_, rfl⟩
  obtain ⟨jB, hjB⟩ : ∃ l, esB.length = l := ⟨_, rfl⟩
  have HLB := Lib.hid (And.intro hlB hjB)
  rw [hlB, hjB]
  clear ddA deA hlA hjA ddB deB hlB hjB
  have S := ((St.start w).alloc 30 [.bool bA, .slice pA lA KA, .slice qA jA JA] (w.heap.size)).alloc 30 [.bool bB, .slice pB lB KB, .slice qB jB JB] (w.heap.size + 1)
  replace atA := atA.hold S.hold
  replace ctA := ctA.hold S.hold
  replace atB := atB.hold S.hold
  replace ctB := ctB.hold S.hold
  have c0_0 := S.c 0 0 rfl rfl
  have c0_1 := S.c 0 1 rfl rfl
  have c0_2 := S.c 0 2 rfl rfl
  have c1_0 := S.c 1 0 rfl rfl
  have c1_1 := S.c 1 1 rfl rfl
  have c1_2 := S.c 1 2 rfl rfl
  go_enter Try.func5, Try.ntmps5
  go_wp2_with fail
  clear c0_0 c0_1 c0_2 c1_0 c1_1 c1_2
  refine (S.call (parts_any _)).mono ?_
  clear S
  rintro e w1 ⟨rfl, S, H⟩
  replace atA := atA.hold H
  replace ctA := ctA.hold H
  replace atB := atB.hold H
  replace ctB := ctB.hold H
  clear H
  have c0_0 := S.c 0 0 rfl rfl
  have c0_1 := S.c 0 1 rfl rfl
  have c0_2 := S.c 0 2 rfl rfl
  have c1_0 := S.c 1 0 rfl rfl
  have c1_1 := S.c 1 1 rfl rfl
  have c1_2 := S.c 1 2 rfl rfl
  have H := S.hnew 30 [.bool bA, .slice pA lA KA, .slice qA jA JA, .bool bB, .slice pB lB KB, .slice qB jB JB]
  replace S := S.alloc 30 [.bool bA, .slice pA lA KA, .slice qA jA JA, .bool bB, .slice pB lB KB, .slice qB jB JB] (w1.heap.size)
  replace atA := atA.hold H
  replace ctA := ctA.hold H
  replace atB := atB.hold H
  replace ctB := ctB.hold H
  clear H
  go_wp2_with fail
  clear c0_0 c0_1 c0_2 c1_0 c1_1 c1_2
  refine (S.call (rfit_any _ 2 _ _ _ _ _ _ _ _ (S.lt 2 rfl) (by decide) (rraws2 S 2 rfl HLA.out.1 HLA.out.2 HLB.out.1 HLB.out.2 atA ctA atB ctB HDA.out.1 HDA.out.2 HDB.out.1 HDB.out.2))).mono ?_
  clear S
  rintro e w2 ⟨⟨ok, rfl, hok⟩, S, H⟩
  replace atA := atA.hold H
  replace ctA := ctA.hold H
  replace atB := atB.hold H
  replace ctB := ctB.hold H
  clear H
  have c0_0 := S.c 0 0 rfl rfl
  have c0_1 := S.c 0 1 rfl rfl
  have c0_2 := S.c 0 2 rfl rfl
  have c1_0 := S.c 1 0 rfl rfl
  have c1_1 := S.c 1 1 rfl rfl
  have c1_2 := S.c 1 2 rfl rfl
  cases ok with
  | false =>
    go_wp2_with fail
    exact bodyPost_ret (v := .bool true) (by simp [results, Try.f5, go_sem]) rfl (⟨rfl, S.below⟩)
  | true =>
    have t := hok.out rfl
    obtain ⟨zA, hA, rA, nA, dA⟩ := tried_rat (b := bA) (t 0 (by decide)) HDA.out.1 HDA.out.2 HLA.out.1 HLA.out.2 atA ctA
    have RA := Lib.hid rA
    obtain ⟨zB, hB, rB, nB, dB⟩ := tried_rat (b := bB) (t 1 (by decide)) HDB.out.1 HDB.out.2 HLB.out.1 HLB.out.2 atB ctB
    have RBB := Lib.hid rB
    clear atA ctA atB ctB
    clear t hok rA rB
    obtain ⟨c, eq, h3, hc1, hc2, hc3, hc4⟩ := three_ratios zA zB
    have HC := Lib.hid (And.intro hc1 (And.intro hc2 (And.intro hc3 hc4)))
    obtain ⟨sg, hsg⟩ : ∃ s, zA.abs.num.sign = s := ⟨_, rfl⟩
    have hs0 : 0 ≤ sg := by rw [← hsg, (abs_num zA).1]; exact Int.sign_nonneg_iff.2 (by omega)
    have HSG := Lib.hid hsg
    have RD := Lib.hid (rb_sub RA.out RBB.out)
    have RN := Lib.hid (And.intro (rb_neg RA.out) (rb_neg RBB.out))
    have RS := Lib.hid (show RB zA.abs 20 from ⟨by rw [(abs_num zA).1]; exact RA.out.1, by rw [(abs_num zA).2]; exact RA.out.2⟩)
    clear hc1 hc2 hc3 hc4 hsg
    rcases h3 with ⟨rfl, rfl⟩ | ⟨rfl, rfl⟩ | ⟨rfl, rfl⟩
    all_goals
      clear c0_0 c0_1 c0_2 c1_0 c1_1 c1_2
      have c0_0 := S.c 0 0 rfl rfl
      have c0_1 := S.c 0 1 rfl rfl
      have c0_2 := S.c 0 2 rfl rfl
      have c1_0 := S.c 1 0 rfl rfl
      have c1_1 := S.c 1 1 rfl rfl
      have c1_2 := S.c 1 2 rfl rfl
      go_wp2_with fail
      clear c0_0 c0_1 c0_2 c1_0 c1_1 c1_2
      refine (S.call (rcompare_any ⟨bA, pA, lA, KA, qA, jA, JA, rfl, hA, nA, dA⟩ ⟨bB, pB, lB, KB, qB, jB, JB, rfl, hB, nB, dB⟩ RA.out RBB.out (by decide) _ HC.out.1)).mono ?_
      clear S
      rintro e w3 ⟨rfl, S, H⟩
      replace nA := nA.hold H
      replace dA := dA.hold H
      replace nB := nB.hold H
      replace dB := dB.hold H
      clear H
      have c0_0 := S.c 0 0 rfl rfl
      have c0_1 := S.c 0 1 rfl rfl
      have c0_2 := S.c 0 2 rfl rfl
      have c1_0 := S.c 1 0 rfl rfl
      have c1_1 := S.c 1 1 rfl rfl
      have c1_2 := S.c 1 2 rfl rfl
      clear c0_0 c0_1 c0_2 c1_0 c1_1 c1_2
      have c0_0 := S.c 0 0 rfl rfl
      have c0_1 := S.c 0 1 rfl rfl
      have c0_2 := S.c 0 2 rfl rfl
      have c1_0 := S.c 1 0 rfl rfl
      have c1_1 := S.c 1 1 rfl rfl
      have c1_2 := S.c 1 2 rfl rfl
      go_wp2_with fail
      clear c0_0 c0_1 c0_2 c1_0 c1_1 c1_2
      refine (S.call (rsub_any ⟨bA, pA, lA, KA, qA, jA, JA, rfl, hA, nA, dA⟩ ⟨bB, pB, lB, KB, qB, jB, JB, rfl, hB, nB, dB⟩ RA.out RBB.out (by decide) (zA - zB) rfl)).mono ?_
      clear S
      rintro e w4 ⟨⟨_, rfl, bD, pD, lD, KD, qD, jD, JD, rfl, hD, nD, dD⟩, S, H⟩
      replace nA := nA.hold H
      replace dA := dA.hold H
      replace nB := nB.hold H
      replace dB := dB.hold H
      clear H
      have c0_0 := S.c 0 0 rfl rfl
      have c0_1 := S.c 0 1 rfl rfl
      have c0_2 := S.c 0 2 rfl rfl
      have c1_0 := S.c 1 0 rfl rfl
      have c1_1 := S.c 1 1 rfl rfl
      have c1_2 := S.c 1 2 rfl rfl
      have H := S.hnew 30 [.bool bD, .slice pD lD KD, .slice qD jD JD]
      replace S := S.alloc 30 [.bool bD, .slice pD lD KD, .slice qD jD JD] (w4.heap.size)
      replace nA := nA.hold H
      replace dA := dA.hold H
      replace nB := nB.hold H
      replace dB := dB.hold H
      replace nD := nD.hold H
      replace dD := dD.hold H
      clear H
      clear c0_0 c0_1 c0_2 c1_0 c1_1 c1_2
      have c0_0 := S.c 0 0 rfl rfl
      have c0_1 := S.c 0 1 rfl rfl
      have c0_2 := S.c 0 2 rfl rfl
      have c1_0 := S.c 1 0 rfl rfl
      have c1_1 := S.c 1 1 rfl rfl
      have c1_2 := S.c 1 2 rfl rfl
      go_upto_region 7 with fail
      clear c0_0 c0_1 c0_2 c1_0 c1_1 c1_2
      replace nA := nA.hold (Hold.drew _)
      replace dA := dA.hold (Hold.drew _)
      replace nB := nB.hold (Hold.drew _)
      replace dB := dB.hold (Hold.drew _)
      replace nD := nD.hold (Hold.drew _)
      replace dD := dD.hold (Hold.drew _)
      replace S := S.drew
      refine wp_region_held_drew (S := fun W => W.cell? ⟨w.heap.size, 0, none⟩ = some (.bool bA) ∧ W.cell? ⟨w.heap.size, 1, none⟩ = some (.slice pA lA KA) ∧ W.cell? ⟨w.heap.size, 2, none⟩ = some (.slice qA jA JA) ∧ W.cell? ⟨w.heap.size + 1, 0, none⟩ = some (.bool bB) ∧ W.cell? ⟨w.heap.size + 1, 1, none⟩ = some (.slice pB lB KB) ∧ W.cell? ⟨w.heap.size + 1, 2, none⟩ = some (.slice qB jB JB)) (by kernel_rfl) ⟨S.c 0 0 rfl rfl, S.c 0 1 rfl rfl, S.c 0 2 rfl rfl, S.c 1 0 rfl rfl, S.c 1 1 rfl rfl, S.c 1 2 rfl rfl⟩ (fun hS => ?_)
      refine wpAnyH_take (i := 0) (v := ?_) ((List.getElem?_toArray ..).trans rfl) (by kernel_rfl) (by kernel_rfl) (by kernel_rfl) (fun _ _ _ h => h) (Or.inl ⟨rfl, fun W hW => ?_⟩) hS ?_
      rotate_left
      · obtain ⟨hW0, hW1, hW2, hW3, hW4, hW5⟩ := hW; go_simp; try first | rfl | (rw [if_neg (by first | omega | (simp only [ByteArray.size_append]; first | omega | (have h1 : (ByteArray.mk #[47]).size = 1 := rfl; omega)))]; try rfl) | kernel_rfl
      try simp only [Act.put, List.setIfInBounds_toArray, List.set_cons_zero, List.set_cons_succ]
      refine wpAnyH_take (i := 2) (v := ?_) ((List.getElem?_toArray ..).trans rfl) (by kernel_rfl) (by kernel_rfl) (by kernel_rfl) (fun _ _ _ h => h) (Or.inl ⟨rfl, fun W hW => ?_⟩) hS ?_
      rotate_left
      · obtain ⟨hW0, hW1, hW2, hW3, hW4, hW5⟩ := hW; go_simp; try first | rfl | (rw [if_neg (by first | omega | (simp only [ByteArray.size_append]; first | omega | (have h1 : (ByteArray.mk #[47]).size = 1 := rfl; omega)))]; try rfl) | kernel_rfl
      try simp only [Act.put, List.setIfInBounds_toArray, List.set_cons_zero, List.set_cons_succ]
      refine wpAnyH_ready (rs := [1]) (by kernel_rfl) (by simp) (AllReadyH.cons ((List.getElem?_toArray ..).trans rfl) (fun KK hKK => ?_) AllReadyH.nil)
      go_simp
      refine (S.call (rneg_any ⟨bB, pB, lB, KB, qB, jB, JB, rfl, hB, nB, dB⟩ (rb_max RBB.out (by decide)) (-zB) rfl)).mono ?_; clear S; rintro e w5 ⟨⟨_, rfl, bM, pM, lM, KM, qM, jM, JM, rfl, hM, nM, dM⟩, S, H⟩; replace nA := nA.hold H; replace dA := dA.hold H; replace nB := nB.hold H; replace dB := dB.hold H; replace nD := nD.hold H; replace dD := dD.hold H; clear H
      go_wp2_with fail
      refine hKK.out _ _ ⟨S.c 0 0 rfl rfl, S.c 0 1 rfl rfl, S.c 0 2 rfl rfl, S.c 1 0 rfl rfl, S.c 1 1 rfl rfl, S.c 1 2 rfl rfl⟩ (fun hS => ?_)
      clear hKK KK
      try simp only [Act.put, List.setIfInBounds_toArray, List.set_cons_zero, List.set_cons_succ]
      refine wpAnyH_ready (rs := [3]) (by kernel_rfl) (by simp) (AllReadyH.cons ((List.getElem?_toArray ..).trans rfl) (fun KK hKK => ?_) AllReadyH.nil)
      go_simp
      refine (S.call (rneg_any ⟨bA, pA, lA, KA, qA, jA, JA, rfl, hA, nA, dA⟩ (rb_max RA.out (by decide)) (-zA) rfl)).mono ?_; clear S; rintro e w6 ⟨⟨_, rfl, bN, pN, lN, KN, qN, jN, JN, rfl, hN, nN, dN⟩, S, H⟩; replace nA := nA.hold H; replace dA := dA.hold H; replace nB := nB.hold H; replace dB := dB.hold H; replace nD := nD.hold H; replace dD := dD.hold H; replace nM := nM.hold H; replace dM := dM.hold H; clear H
      go_wp2_with fail
      refine hKK.out _ _ ⟨S.c 0 0 rfl rfl, S.c 0 1 rfl rfl, S.c 0 2 rfl rfl, S.c 1 0 rfl rfl, S.c 1 1 rfl rfl, S.c 1 2 rfl rfl⟩ (fun hS => ?_)
      clear hKK KK
      try simp only [Act.put, List.setIfInBounds_toArray, List.set_cons_zero, List.set_cons_succ]
      refine wpAnyH_ready (rs := [4]) (by kernel_rfl) (by simp) (AllReadyH.cons ((List.getElem?_toArray ..).trans rfl) (fun KK hKK => ?_) AllReadyH.nil)
      go_simp
      refine (S.call (rcompare_any ⟨bM, pM, lM, KM, qM, jM, JM, rfl, hM, nM, dM⟩ ⟨bN, pN, lN, KN, qN, jN, JN, rfl, hN, nN, dN⟩ RN.out.2 RN.out.1 (by decide) _ HC.out.2.1)).mono ?_; clear S; rintro e w7 ⟨rfl, S, H⟩; replace nA := nA.hold H; replace dA := dA.hold H; replace nB := nB.hold H; replace dB := dB.hold H; replace nD := nD.hold H; replace dD := dD.hold H; replace nM := nM.hold H; replace dM := dM.hold H; replace nN := nN.hold H; replace dN := dN.hold H; clear H
      go_wp2_with fail
      refine hKK.out _ _ ⟨S.c 0 0 rfl rfl, S.c 0 1 rfl rfl, S.c 0 2 rfl rfl, S.c 1 0 rfl rfl, S.c 1 1 rfl rfl, S.c 1 2 rfl rfl⟩ (fun hS => ?_)
      clear hKK KK
      try simp only [Act.put, List.setIfInBounds_toArray, List.set_cons_zero, List.set_cons_succ]
      refine wpAnyH_take (i := 5) (v := ?_) ((List.getElem?_toArray ..).trans rfl) (by kernel_rfl) (by kernel_rfl) (by kernel_rfl) (fun _ _ _ h => h) (Or.inl ⟨rfl, fun W hW => ?_⟩) hS ?_
      rotate_left
      · obtain ⟨hW0, hW1, hW2, hW3, hW4, hW5⟩ := hW; go_simp; try first | rfl | (rw [if_neg (by first | omega | (simp only [ByteArray.size_append]; first | omega | (have h1 : (ByteArray.mk #[47]).size = 1 := rfl; omega)))]; try rfl) | kernel_rfl
      try simp only [Act.put, List.setIfInBounds_toArray, List.set_cons_zero, List.set_cons_succ]
      refine wpAnyH_take (i := 6) (v := ?_) ((List.getElem?_toArray ..).trans rfl) (by kernel_rfl) (by kernel_rfl) (by kernel_rfl) (fun _ _ _ h => h) (Or.inl ⟨rfl, fun W hW => ?_⟩) hS ?_
      rotate_left
      · obtain ⟨hW0, hW1, hW2, hW3, hW4, hW5⟩ := hW; go_simp; try first | rfl | (rw [if_neg (by first | omega | (simp only [ByteArray.size_append]; first | omega | (have h1 : (ByteArray.mk #[47]).size = 1 := rfl; omega)))]; try rfl) | kernel_rfl
      try simp only [Act.put, List.setIfInBounds_toArray, List.set_cons_zero, List.set_cons_succ]
      refine wpAnyH_take (i := 7) (v := ?_) ((List.getElem?_toArray ..).trans rfl) (by kernel_rfl) (by kernel_rfl) (by kernel_rfl) (fun _ _ _ h => h) (Or.inl ⟨rfl, fun W hW => ?_⟩) hS ?_
      rotate_left
      · obtain ⟨hW0, hW1, hW2, hW3, hW4, hW5⟩ := hW; go_simp; try first | rfl | (rw [if_neg (by first | omega | (simp only [ByteArray.size_append]; first | omega | (have h1 : (ByteArray.mk #[47]).size = 1 := rfl; omega)))]; try rfl) | kernel_rfl
      try simp only [Act.put, List.setIfInBounds_toArray, List.set_cons_zero, List.set_cons_succ]
      refine wpAnyH_ready (rs := [8]) (by kernel_rfl) (by simp) (AllReadyH.cons ((List.getElem?_toArray ..).trans rfl) (fun KK hKK => ?_) AllReadyH.nil)
      go_simp
      refine hKK.out _ _ ⟨S.c 0 0 rfl rfl, S.c 0 1 rfl rfl, S.c 0 2 rfl rfl, S.c 1 0 rfl rfl, S.c 1 1 rfl rfl, S.c 1 2 rfl rfl⟩ (fun hS => ?_)
      clear hKK KK
      try simp only [Act.put, List.setIfInBounds_toArray, List.set_cons_zero, List.set_cons_succ]
      refine wpAnyH_ready (rs := [9]) (by kernel_rfl) (by simp) (AllReadyH.cons ((List.getElem?_toArray ..).trans rfl) (fun KK hKK => ?_) AllReadyH.nil)
      go_simp
      refine hKK.out _ _ ⟨S.c 0 0 rfl rfl, S.c 0 1 rfl rfl, S.c 0 2 rfl rfl, S.c 1 0 rfl rfl, S.c 1 1 rfl rfl, S.c 1 2 rfl rfl⟩ (fun hS => ?_)
      clear hKK KK
      try simp only [Act.put, List.setIfInBounds_toArray, List.set_cons_zero, List.set_cons_succ]
      refine wpAnyH_done (by kernel_rfl) ?_ _
      have c3_0 := S.c 3 0 rfl rfl
      have c3_1 := S.c 3 1 rfl rfl
      have c3_2 := S.c 3 2 rfl rfl
      go_wp2_with fail
      generalize (.tuple #[.agg #[.bool bD, .slice pD lD KD, .slice qD jD JD], .int .i64 0] : Value) = g1
      clear c3_0 c3_1 c3_2
      refine (S.call (rsign_any ⟨bD, pD, lD, KD, qD, jD, JD, rfl, hD, nD, dD⟩ (rb_max RD.out (by decide)).1 HC.out.2.2.1)).mono ?_
      clear S
      rintro e w8 ⟨rfl, S, H⟩
      replace nA := nA.hold H
      replace dA := dA.hold H
      replace nB := nB.hold H
      replace dB := dB.hold H
      replace nD := nD.hold H
      replace dD := dD.hold H
      replace nM := nM.hold H
      replace dM := dM.hold H
      replace nN := nN.hold H
      replace dN := dN.hold H
      clear H
      have c3_0 := S.c 3 0 rfl rfl
      have c3_1 := S.c 3 1 rfl rfl
      have c3_2 := S.c 3 2 rfl rfl
      clear c3_0 c3_1 c3_2
      have c0_0 := S.c 0 0 rfl rfl
      have c0_1 := S.c 0 1 rfl rfl
      have c0_2 := S.c 0 2 rfl rfl
      have c1_0 := S.c 1 0 rfl rfl
      have c1_1 := S.c 1 1 rfl rfl
      have c1_2 := S.c 1 2 rfl rfl
      go_wp2_with fail
      clear c0_0 c0_1 c0_2 c1_0 c1_1 c1_2
      refine (S.call (same_any ⟨bA, pA, lA, KA, qA, jA, JA, rfl, hA, nA, dA⟩ ⟨bB, pB, lB, KB, qB, jB, JB, rfl, hB, nB, dB⟩ (rb_max RA.out (by decide)) (rb_max RBB.out (by decide)) HC.out.2.2.2)).mono ?_
      clear S
      rintro e w9 ⟨rfl, S, H⟩
      replace nA := nA.hold H
      replace dA := dA.hold H
      replace nB := nB.hold H
      replace dB := dB.hold H
      replace nD := nD.hold H
      replace dD := dD.hold H
      replace nM := nM.hold H
      replace dM := dM.hold H
      replace nN := nN.hold H
      replace dN := dN.hold H
      clear H
      have c0_0 := S.c 0 0 rfl rfl
      have c0_1 := S.c 0 1 rfl rfl
      have c0_2 := S.c 0 2 rfl rfl
      have c1_0 := S.c 1 0 rfl rfl
      have c1_1 := S.c 1 1 rfl rfl
      have c1_2 := S.c 1 2 rfl rfl
      clear c0_0 c0_1 c0_2 c1_0 c1_1 c1_2
      have c0_0 := S.c 0 0 rfl rfl
      have c0_1 := S.c 0 1 rfl rfl
      have c0_2 := S.c 0 2 rfl rfl
      go_wp2_with fail
      clear c0_0 c0_1 c0_2
      refine (S.call (rabs_any ⟨bA, pA, lA, KA, qA, jA, JA, rfl, hA, nA, dA⟩ (rb_max RA.out (by decide)))).mono ?_
      clear S
      rintro e w10 ⟨⟨_, rfl, bS, pS, lS, KS, qS, jS, JS, rfl, hS, nS, dS⟩, S, H⟩
      replace nA := nA.hold H
      replace dA := dA.hold H
      replace nB := nB.hold H
      replace dB := dB.hold H
      replace nD := nD.hold H
      replace dD := dD.hold H
      replace nM := nM.hold H
      replace dM := dM.hold H
      replace nN := nN.hold H
      replace dN := dN.hold H
      clear H
      have c0_0 := S.c 0 0 rfl rfl
      have c0_1 := S.c 0 1 rfl rfl
      have c0_2 := S.c 0 2 rfl rfl
      clear c0_0 c0_1 c0_2
      go_wp2_with fail
      refine (S.call (rsign_any ⟨bS, pS, lS, KS, qS, jS, JS, rfl, hS, nS, dS⟩ (rb_max RS.out (by decide)).1 HSG.out)).mono ?_
      clear S
      rintro e w11 ⟨rfl, S, H⟩
      replace nA := nA.hold H
      replace dA := dA.hold H
      replace nB := nB.hold H
      replace dB := dB.hold H
      replace nD := nD.hold H
      replace dD := dD.hold H
      replace nM := nM.hold H
      replace dM := dM.hold H
      replace nN := nN.hold H
      replace dN := dN.hold H
      replace nS := nS.hold H
      replace dS := dS.hold H
      clear H
      go_wp2_with fail
      exact bodyPost_ret (v := .bool true) (by simp [results, Try.f5, go_sem]) rfl (⟨rfl, S.below⟩)

end Go.Proofs.Ytggnjlbnfgjgdaa
