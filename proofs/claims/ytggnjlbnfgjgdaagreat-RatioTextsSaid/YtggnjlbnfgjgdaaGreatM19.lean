/-
  ratio.crosswise, Make, over. ratio.Make. Ratios: how many digits what is reckoned of them has; what it is, as one number over another one. ratio.over. ratio.Add. ratio.Mul. ratio.Neg.
-/
import Derived.Test.YtggnjlbnfgjgdaaGreatM16
import Derived.Test.YtggnjlbnfgjgdaaGreatM17
import Derived.Test.YtggnjlbnfgjgdaaGreatM18

namespace Go.Proofs.YtggnjlbnfgjgdaaGreat
open Go.RowKit

theorem or_two {g : Nat} {w W : World} {L : List (Nat × TypeId × List Value)} (S : St w W L) (i : Nat) {t : TypeId} (hi : L[i]? = some (g, t, [.int .i64 0, .int .i64 0])) :
    Calls Tryz.prog 56 #[.slice (some ⟨g, 0, none⟩) 2 2] W fun e w' => e = .returned (.int .i64 0) ∧ Below W.heap.size W w' :=
  or_zero g 2 W (S.lt i hi) (by decide) fun j hj => by
    match j, hj with
    | 0, _ => exact S.c i 0 hi rfl
    | 1, _ => exact S.c i 1 hi rfl

set_option maxRecDepth 100000 in
set_option maxHeartbeats 4000000 in
theorem cross_any {va vb : Value} {x y : Rat} {w : World} (ha : IsRat w va x) (hb : IsRat w vb y) (h1 : x.num.natAbs < maxN) (h2 : x.den < maxN) (h3 : y.num.natAbs < maxN) (h4 : y.den < maxN) (X Y : Int) (hX : x.num * y.den = X) (hY : y.num * x.den = Y) (hx : X.natAbs < maxN) (hy : Y.natAbs < maxN) :
    Calls Tryz.prog 52 #[va, vb] w fun e w' => (∃ u v, e = .returned (.tuple #[u, v, .int .i64 0]) ∧ IsInt w' u X ∧ IsInt w' v Y) ∧ Below w.heap.size w w' := by
  obtain ⟨b1, p1, l1, K1, q1, j1, J1, rfl, hb1, n1, d1⟩ := ha
  obtain ⟨b2, p2, l2, K2, q2, j2, J2, rfl, hb2, n2, d2⟩ := hb
  have HD := Lib.hid (And.intro h1 (And.intro h2 (And.intro h3 (And.intro h4 (And.intro hX (And.intro hY (And.intro hx hy)))))))
  clear h1 h2 h3 h4 hX hY hx hy
  have S := ((((St.start w).alloc 27 [.bool b1, .slice p1 l1 K1, .slice q1 j1 J1] (w.heap.size)).alloc 27 [.bool b2, .slice p2 l2 K2, .slice q2 j2 J2] (w.heap.size + 1)).alloc 25 [.bool false, .slice none 0 0] (w.heap.size + 1 + 1)).alloc 25 [.bool false, .slice none 0 0] (w.heap.size + 1 + 1 + 1)
  replace n1 := n1.hold S.hold
  replace d1 := d1.hold S.hold
  replace n2 := n2.hold S.hold
  replace d2 := d2.hold S.hold
  have c0_0 := S.c 0 0 rfl rfl
  have c0_1 := S.c 0 1 rfl rfl
  have c0_2 := S.c 0 2 rfl rfl
  have c1_0 := S.c 1 0 rfl rfl
  have c1_1 := S.c 1 1 rfl rfl
  have c1_2 := S.c 1 2 rfl rfl
  have c2_0 := S.c 2 0 rfl rfl
  have c2_1 := S.c 2 1 rfl rfl
  have c3_0 := S.c 3 0 rfl rfl
  have c3_1 := S.c 3 1 rfl rfl
  go_enter Tryz.func52, Tryz.ntmps52
  go_upto_region 1 with fail
  clear c0_0 c0_1 c0_2 c1_0 c1_1 c1_2 c2_0 c2_1 c3_0 c3_1
  generalize ((((w.alloc (.cells #[.bool b1, .slice p1 l1 K1, .slice q1 j1 J1] 27)).alloc (.cells #[.bool b2, .slice p2 l2 K2, .slice q2 j2 J2] 27)).alloc (.cells #[.bool false, .slice none 0 0] 25)).alloc (.cells #[.bool false, .slice none 0 0] 25)) = w1 at S n1 d1 n2 d2 ⊢
  go_cut [7, 8] (fun s7 s8 wx => ∃ g7 p l K, s7 = .pointer (some ⟨g7, 0, none⟩) ∧ s8 = .int .i64 0 ∧ St w wx [(w.heap.size, 27, [.bool b1, .slice p1 l1 K1, .slice q1 j1 J1]), (w.heap.size + 1, 27, [.bool b2, .slice p2 l2 K2, .slice q2 j2 J2]), (w.heap.size + 1 + 1, 25, [.bool false, .slice none 0 0]), (w.heap.size + 1 + 1 + 1, 25, [.bool false, .slice none 0 0]), (g7, 25, [.bool (negB X), .slice p l K])] ∧ IsNat wx (.slice p l K) X.natAbs ∧ Hold w1 wx)
  case first =>
    have HH := Hold.drew w1
    replace n1 := n1.hold HH
    replace d1 := d1.hold HH
    replace n2 := n2.hold HH
    replace d2 := d2.hold HH
    replace S := S.drew
    refine wp_region_held_drew (S := fun W => W.cell? ⟨w.heap.size, 0, none⟩ = some (.bool b1) ∧ W.cell? ⟨w.heap.size, 1, none⟩ = some (.slice p1 l1 K1) ∧ W.cell? ⟨w.heap.size + 1, 2, none⟩ = some (.slice q2 j2 J2)) (by kernel_rfl) ⟨S.c 0 0 rfl rfl, S.c 0 1 rfl rfl, S.c 1 2 rfl rfl⟩ (fun hS => ?_)
    generalize w1.drew = w2 at S n1 d1 n2 d2 HH hS ⊢
    refine wpAnyH_take (i := 0) (v := ?_) ((List.getElem?_toArray ..).trans rfl) (by kernel_rfl) (by kernel_rfl) (by kernel_rfl) (fun _ _ _ h => h) (Or.inl ⟨rfl, fun W hW => ?_⟩) hS ?_
    rotate_left
    · obtain ⟨hW0, hW1, hW2⟩ := hW; go_simp; try first | rfl | kernel_rfl
    try simp only [Act.put, List.setIfInBounds_toArray, List.set_cons_zero, List.set_cons_succ]
    refine wpAnyH_take (i := 1) (v := ?_) ((List.getElem?_toArray ..).trans rfl) (by kernel_rfl) (by kernel_rfl) (by kernel_rfl) (fun _ _ _ h => h) (Or.inl ⟨rfl, fun W hW => ?_⟩) hS ?_
    rotate_left
    · obtain ⟨hW0, hW1, hW2⟩ := hW; go_simp; try first | rfl | kernel_rfl
    try simp only [Act.put, List.setIfInBounds_toArray, List.set_cons_zero, List.set_cons_succ]
    refine wpAnyH_take (i := 2) (v := ?_) ((List.getElem?_toArray ..).trans rfl) (by kernel_rfl) (by kernel_rfl) (by kernel_rfl) (fun _ _ _ h => h) (Or.inl ⟨rfl, fun W hW => ?_⟩) hS ?_
    rotate_left
    · obtain ⟨hW0, hW1, hW2⟩ := hW; go_simp; try first | rfl | kernel_rfl
    try simp only [Act.put, List.setIfInBounds_toArray, List.set_cons_zero, List.set_cons_succ]
    refine wpAnyH_take (i := 3) (v := ?_) ((List.getElem?_toArray ..).trans rfl) (by kernel_rfl) (by kernel_rfl) (by kernel_rfl) (fun _ _ _ h => h) (Or.inl ⟨rfl, fun W hW => ?_⟩) hS ?_
    rotate_left
    · obtain ⟨hW0, hW1, hW2⟩ := hW; go_simp; try first | rfl | kernel_rfl
    try simp only [Act.put, List.setIfInBounds_toArray, List.set_cons_zero, List.set_cons_succ]
    refine wpAnyH_ready (rs := [4, 9]) (by kernel_rfl) (by simp) (AllReadyH.cons ((List.getElem?_toArray ..).trans rfl) (fun KK hKK => ?_) (AllReadyH.cons ((List.getElem?_toArray ..).trans rfl) (fun KK hKK => ?_) AllReadyH.nil))
    ·
      go_simp
      clear hS
      refine (S.call (wnat_any d2 HD.out.2.2.2.1 (y.den : Int) rfl)).mono ?_
      clear S
      rintro e w3 ⟨⟨_, rfl, pn, ln, Kn, rfl, nn⟩, S, H⟩
      replace n1 := n1.hold H
      replace d1 := d1.hold H
      replace n2 := n2.hold H
      replace d2 := d2.hold H
      replace HH := HH.trans H
      clear H
      go_wp2_with fail
      refine hKK.out _ _ ⟨S.c 0 0 rfl rfl, S.c 0 1 rfl rfl, S.c 1 2 rfl rfl⟩ (fun hS => ?_)
      clear hKK KK
      try simp only [Act.put, List.setIfInBounds_toArray, List.set_cons_zero, List.set_cons_succ]
      refine wpAnyH_ready (rs := [5, 9]) (by kernel_rfl) (by simp) (AllReadyH.cons ((List.getElem?_toArray ..).trans rfl) (fun KK hKK => ?_) (AllReadyH.cons ((List.getElem?_toArray ..).trans rfl) (fun KK hKK => ?_) AllReadyH.nil))
      ·
        go_simp
        clear hS
        refine (S.call (wmul_to ⟨_, _, _, by rw [hb1.out], n1⟩ ⟨_, _, _, rfl, nn⟩ HD.out.1 HD.out.2.2.2.1 X HD.out.2.2.2.2.1 HD.out.2.2.2.2.2.2.1)).mono ?_
        clear S
        rintro e w4 ⟨⟨_, rfl, p, l, K, rfl, nx⟩, S, H⟩
        replace n1 := n1.hold H
        replace d1 := d1.hold H
        replace n2 := n2.hold H
        replace d2 := d2.hold H
        replace nn := nn.hold H
        replace HH := HH.trans H
        clear H
        go_wp2_with fail
        refine hKK.out _ _ ⟨S.c 0 0 rfl rfl, S.c 0 1 rfl rfl, S.c 1 2 rfl rfl⟩ (fun hS => ?_)
        clear hKK KK
        try simp only [Act.put, List.setIfInBounds_toArray, List.set_cons_zero, List.set_cons_succ]
        refine wpAnyH_take (i := 6) (v := ?_) ((List.getElem?_toArray ..).trans rfl) (by kernel_rfl) (by kernel_rfl) (by kernel_rfl) (fun _ _ _ h => h) (Or.inl ⟨rfl, fun W hW => ?_⟩) hS ?_
        rotate_left
        · obtain ⟨hW0, hW1, hW2⟩ := hW; go_simp; try first | rfl | kernel_rfl
        try simp only [Act.put, List.setIfInBounds_toArray, List.set_cons_zero, List.set_cons_succ]
        refine wpAnyH_take (i := 7) (v := ?_) ((List.getElem?_toArray ..).trans rfl) (by kernel_rfl) (by kernel_rfl) (by kernel_rfl) (fun _ _ _ h => h) (Or.inl ⟨rfl, fun W hW => ?_⟩) hS ?_
        rotate_left
        · obtain ⟨hW0, hW1, hW2⟩ := hW; go_simp; try first | rfl | kernel_rfl
        try simp only [Act.put, List.setIfInBounds_toArray, List.set_cons_zero, List.set_cons_succ]
        refine wpAnyH_take (i := 8) (v := ?_) ((List.getElem?_toArray ..).trans rfl) (by kernel_rfl) (by kernel_rfl) (by kernel_rfl) (fun _ _ _ h => h) (Or.inl ⟨rfl, fun W hW => ?_⟩) hS ?_
        rotate_left
        · obtain ⟨hW0, hW1, hW2⟩ := hW; go_simp; try first | rfl | kernel_rfl
        try simp only [Act.put, List.setIfInBounds_toArray, List.set_cons_zero, List.set_cons_succ]
        refine wpAnyH_ready (rs := [9]) (by kernel_rfl) (by simp) (AllReadyH.cons ((List.getElem?_toArray ..).trans rfl) (fun KK hKK => ?_) AllReadyH.nil)
        go_simp
        clear hS
        have H := S.hnew 25 [.bool false, .slice none 0 0]
        replace S := S.alloc 25 [.bool false, .slice none 0 0] (w4.heap.size)
        replace n1 := n1.hold H
        replace d1 := d1.hold H
        replace n2 := n2.hold H
        replace d2 := d2.hold H
        replace nn := nn.hold H
        replace nx := nx.hold H
        replace HH := HH.trans H
        clear H
        refine hKK.out _ _ ⟨S.c 0 0 rfl rfl, S.c 0 1 rfl rfl, S.c 1 2 rfl rfl⟩ (fun hS => ?_)
        generalize (w4.alloc (.cells #[.bool false, .slice none 0 0] 25)) = w5 at S n1 d1 n2 d2 nn nx HH hS ⊢
        clear hKK KK
        try simp only [Act.put, List.setIfInBounds_toArray, List.set_cons_zero, List.set_cons_succ]
        refine wpAnyH_ready (rs := [10]) (by kernel_rfl) (by simp) (AllReadyH.cons ((List.getElem?_toArray ..).trans rfl) (fun KK hKK => ?_) AllReadyH.nil)
        have c0 := S.c 4 0 rfl rfl
        have f0 := S.f 4 0 rfl
        have c1 := S.c 4 1 rfl rfl
        have f1 := S.f 4 1 rfl
        go_simp
        clear hS c0 f0 c1 f1
        have H := S.hset 4 0 (.bool (negB X)) rfl rfl (by intro q n e; cases e)
        replace S := S.set 4 0 (.bool (negB X)) rfl
        replace n1 := n1.hold H
        replace d1 := d1.hold H
        replace n2 := n2.hold H
        replace d2 := d2.hold H
        replace nn := nn.hold H
        replace nx := nx.hold H
        replace HH := HH.trans H
        clear H
        have H := S.hset 4 1 (.slice p l K) rfl rfl (by intro q n e; cases e)
        replace S := S.set 4 1 (.slice p l K) rfl
        replace n1 := n1.hold H
        replace d1 := d1.hold H
        replace n2 := n2.hold H
        replace d2 := d2.hold H
        replace nn := nn.hold H
        replace nx := nx.hold H
        replace HH := HH.trans H
        clear H
        refine hKK.out _ _ ⟨S.c 0 0 rfl rfl, S.c 0 1 rfl rfl, S.c 1 2 rfl rfl⟩ (fun hS => ?_)
        generalize ((w5.setCell ⟨w4.heap.size, 0, none⟩ (.bool (negB X))).setCell ⟨w4.heap.size, 1, none⟩ (.slice p l K)) = w6 at S n1 d1 n2 d2 nn nx HH hS ⊢
        clear hKK KK
        try simp only [Act.put, List.setIfInBounds_toArray, List.set_cons_zero, List.set_cons_succ]
        refine wpAnyH_ready (rs := [11]) (by kernel_rfl) (by simp) (AllReadyH.cons ((List.getElem?_toArray ..).trans rfl) (fun KK hKK => ?_) AllReadyH.nil)
        go_simp
        refine hKK.out _ _ hS (fun hS => ?_)
        clear hKK KK
        try simp only [Act.put, List.setIfInBounds_toArray, List.set_cons_zero, List.set_cons_succ]
        refine wpAnyH_done (by kernel_rfl) ?_ _
        go_wp2_with fail
        go_meet
        case rel => exact ⟨w4.heap.size, p, l, K, rfl, rfl, S, nx, HH⟩
      ·
        go_simp
        clear hS
        have H := S.hnew 25 [.bool false, .slice none 0 0]
        replace S := S.alloc 25 [.bool false, .slice none 0 0] (w3.heap.size)
        replace n1 := n1.hold H
        replace d1 := d1.hold H
        replace n2 := n2.hold H
        replace d2 := d2.hold H
        replace nn := nn.hold H
        replace HH := HH.trans H
        clear H
        refine hKK.out _ _ ⟨S.c 0 0 rfl rfl, S.c 0 1 rfl rfl, S.c 1 2 rfl rfl⟩ (fun hS => ?_)
        generalize (w3.alloc (.cells #[.bool false, .slice none 0 0] 25)) = w7 at S n1 d1 n2 d2 nn HH hS ⊢
        clear hKK KK
        try simp only [Act.put, List.setIfInBounds_toArray, List.set_cons_zero, List.set_cons_succ]
        refine wpAnyH_ready (rs := [5]) (by kernel_rfl) (by simp) (AllReadyH.cons ((List.getElem?_toArray ..).trans rfl) (fun KK hKK => ?_) AllReadyH.nil)
        go_simp
        clear hS
        refine (S.call (wmul_to ⟨_, _, _, by rw [hb1.out], n1⟩ ⟨_, _, _, rfl, nn⟩ HD.out.1 HD.out.2.2.2.1 X HD.out.2.2.2.2.1 HD.out.2.2.2.2.2.2.1)).mono ?_
        clear S
        rintro e w8 ⟨⟨_, rfl, p, l, K, rfl, nx⟩, S, H⟩
        replace n1 := n1.hold H
        replace d1 := d1.hold H
        replace n2 := n2.hold H
        replace d2 := d2.hold H
        replace nn := nn.hold H
        replace HH := HH.trans H
        clear H
        go_wp2_with fail
        refine hKK.out _ _ ⟨S.c 0 0 rfl rfl, S.c 0 1 rfl rfl, S.c 1 2 rfl rfl⟩ (fun hS => ?_)
        clear hKK KK
        try simp only [Act.put, List.setIfInBounds_toArray, List.set_cons_zero, List.set_cons_succ]
        refine wpAnyH_take (i := 6) (v := ?_) ((List.getElem?_toArray ..).trans rfl) (by kernel_rfl) (by kernel_rfl) (by kernel_rfl) (fun _ _ _ h => h) (Or.inl ⟨rfl, fun W hW => ?_⟩) hS ?_
        rotate_left
        · obtain ⟨hW0, hW1, hW2⟩ := hW; go_simp; try first | rfl | kernel_rfl
        try simp only [Act.put, List.setIfInBounds_toArray, List.set_cons_zero, List.set_cons_succ]
        refine wpAnyH_take (i := 7) (v := ?_) ((List.getElem?_toArray ..).trans rfl) (by kernel_rfl) (by kernel_rfl) (by kernel_rfl) (fun _ _ _ h => h) (Or.inl ⟨rfl, fun W hW => ?_⟩) hS ?_
        rotate_left
        · obtain ⟨hW0, hW1, hW2⟩ := hW; go_simp; try first | rfl | kernel_rfl
        try simp only [Act.put, List.setIfInBounds_toArray, List.set_cons_zero, List.set_cons_succ]
        refine wpAnyH_take (i := 8) (v := ?_) ((List.getElem?_toArray ..).trans rfl) (by kernel_rfl) (by kernel_rfl) (by kernel_rfl) (fun _ _ _ h => h) (Or.inl ⟨rfl, fun W hW => ?_⟩) hS ?_
        rotate_left
        · obtain ⟨hW0, hW1, hW2⟩ := hW; go_simp; try first | rfl | kernel_rfl
        try simp only [Act.put, List.setIfInBounds_toArray, List.set_cons_zero, List.set_cons_succ]
        refine wpAnyH_ready (rs := [10]) (by kernel_rfl) (by simp) (AllReadyH.cons ((List.getElem?_toArray ..).trans rfl) (fun KK hKK => ?_) AllReadyH.nil)
        have c0 := S.c 4 0 rfl rfl
        have f0 := S.f 4 0 rfl
        have c1 := S.c 4 1 rfl rfl
        have f1 := S.f 4 1 rfl
        go_simp
        clear hS c0 f0 c1 f1
        have H := S.hset 4 0 (.bool (negB X)) rfl rfl (by intro q n e; cases e)
        replace S := S.set 4 0 (.bool (negB X)) rfl
        replace n1 := n1.hold H
        replace d1 := d1.hold H
        replace n2 := n2.hold H
        replace d2 := d2.hold H
        replace nn := nn.hold H
        replace nx := nx.hold H
        replace HH := HH.trans H
        clear H
        have H := S.hset 4 1 (.slice p l K) rfl rfl (by intro q n e; cases e)
        replace S := S.set 4 1 (.slice p l K) rfl
        replace n1 := n1.hold H
        replace d1 := d1.hold H
        replace n2 := n2.hold H
        replace d2 := d2.hold H
        replace nn := nn.hold H
        replace nx := nx.hold H
        replace HH := HH.trans H
        clear H
        refine hKK.out _ _ ⟨S.c 0 0 rfl rfl, S.c 0 1 rfl rfl, S.c 1 2 rfl rfl⟩ (fun hS => ?_)
        generalize ((w8.setCell ⟨w3.heap.size, 0, none⟩ (.bool (negB X))).setCell ⟨w3.heap.size, 1, none⟩ (.slice p l K)) = w9 at S n1 d1 n2 d2 nn nx HH hS ⊢
        clear hKK KK
        try simp only [Act.put, List.setIfInBounds_toArray, List.set_cons_zero, List.set_cons_succ]
        refine wpAnyH_ready (rs := [11]) (by kernel_rfl) (by simp) (AllReadyH.cons ((List.getElem?_toArray ..).trans rfl) (fun KK hKK => ?_) AllReadyH.nil)
        go_simp
        refine hKK.out _ _ hS (fun hS => ?_)
        clear hKK KK
        try simp only [Act.put, List.setIfInBounds_toArray, List.set_cons_zero, List.set_cons_succ]
        refine wpAnyH_done (by kernel_rfl) ?_ _
        go_wp2_with fail
        go_meet
        case rel => exact ⟨w3.heap.size, p, l, K, rfl, rfl, S, nx, HH⟩
    ·
      go_simp
      clear hS
      have H := S.hnew 25 [.bool false, .slice none 0 0]
      replace S := S.alloc 25 [.bool false, .slice none 0 0] (w2.heap.size)
      replace n1 := n1.hold H
      replace d1 := d1.hold H
      replace n2 := n2.hold H
      replace d2 := d2.hold H
      replace HH := HH.trans H
      clear H
      refine hKK.out _ _ ⟨S.c 0 0 rfl rfl, S.c 0 1 rfl rfl, S.c 1 2 rfl rfl⟩ (fun hS => ?_)
      generalize (w2.alloc (.cells #[.bool false, .slice none 0 0] 25)) = w10 at S n1 d1 n2 d2 HH hS ⊢
      clear hKK KK
      try simp only [Act.put, List.setIfInBounds_toArray, List.set_cons_zero, List.set_cons_succ]
      refine wpAnyH_ready (rs := [4]) (by kernel_rfl) (by simp) (AllReadyH.cons ((List.getElem?_toArray ..).trans rfl) (fun KK hKK => ?_) AllReadyH.nil)
      go_simp
      clear hS
      refine (S.call (wnat_any d2 HD.out.2.2.2.1 (y.den : Int) rfl)).mono ?_
      clear S
      rintro e w11 ⟨⟨_, rfl, pn, ln, Kn, rfl, nn⟩, S, H⟩
      replace n1 := n1.hold H
      replace d1 := d1.hold H
      replace n2 := n2.hold H
      replace d2 := d2.hold H
      replace HH := HH.trans H
      clear H
      go_wp2_with fail
      refine hKK.out _ _ ⟨S.c 0 0 rfl rfl, S.c 0 1 rfl rfl, S.c 1 2 rfl rfl⟩ (fun hS => ?_)
      clear hKK KK
      try simp only [Act.put, List.setIfInBounds_toArray, List.set_cons_zero, List.set_cons_succ]
      refine wpAnyH_ready (rs := [5]) (by kernel_rfl) (by simp) (AllReadyH.cons ((List.getElem?_toArray ..).trans rfl) (fun KK hKK => ?_) AllReadyH.nil)
      go_simp
      clear hS
      refine (S.call (wmul_to ⟨_, _, _, by rw [hb1.out], n1⟩ ⟨_, _, _, rfl, nn⟩ HD.out.1 HD.out.2.2.2.1 X HD.out.2.2.2.2.1 HD.out.2.2.2.2.2.2.1)).mono ?_
      clear S
      rintro e w12 ⟨⟨_, rfl, p, l, K, rfl, nx⟩, S, H⟩
      replace n1 := n1.hold H
      replace d1 := d1.hold H
      replace n2 := n2.hold H
      replace d2 := d2.hold H
      replace nn := nn.hold H
      replace HH := HH.trans H
      clear H
      go_wp2_with fail
      refine hKK.out _ _ ⟨S.c 0 0 rfl rfl, S.c 0 1 rfl rfl, S.c 1 2 rfl rfl⟩ (fun hS => ?_)
      clear hKK KK
      try simp only [Act.put, List.setIfInBounds_toArray, List.set_cons_zero, List.set_cons_succ]
      refine wpAnyH_take (i := 6) (v := ?_) ((List.getElem?_toArray ..).trans rfl) (by kernel_rfl) (by kernel_rfl) (by kernel_rfl) (fun _ _ _ h => h) (Or.inl ⟨rfl, fun W hW => ?_⟩) hS ?_
      rotate_left
      · obtain ⟨hW0, hW1, hW2⟩ := hW; go_simp; try first | rfl | kernel_rfl
      try simp only [Act.put, List.setIfInBounds_toArray, List.set_cons_zero, List.set_cons_succ]
      refine wpAnyH_take (i := 7) (v := ?_) ((List.getElem?_toArray ..).trans rfl) (by kernel_rfl) (by kernel_rfl) (by kernel_rfl) (fun _ _ _ h => h) (Or.inl ⟨rfl, fun W hW => ?_⟩) hS ?_
      rotate_left
      · obtain ⟨hW0, hW1, hW2⟩ := hW; go_simp; try first | rfl | kernel_rfl
      try simp only [Act.put, List.setIfInBounds_toArray, List.set_cons_zero, List.set_cons_succ]
      refine wpAnyH_take (i := 8) (v := ?_) ((List.getElem?_toArray ..).trans rfl) (by kernel_rfl) (by kernel_rfl) (by kernel_rfl) (fun _ _ _ h => h) (Or.inl ⟨rfl, fun W hW => ?_⟩) hS ?_
      rotate_left
      · obtain ⟨hW0, hW1, hW2⟩ := hW; go_simp; try first | rfl | kernel_rfl
      try simp only [Act.put, List.setIfInBounds_toArray, List.set_cons_zero, List.set_cons_succ]
      refine wpAnyH_ready (rs := [10]) (by kernel_rfl) (by simp) (AllReadyH.cons ((List.getElem?_toArray ..).trans rfl) (fun KK hKK => ?_) AllReadyH.nil)
      have c0 := S.c 4 0 rfl rfl
      have f0 := S.f 4 0 rfl
      have c1 := S.c 4 1 rfl rfl
      have f1 := S.f 4 1 rfl
      go_simp
      clear hS c0 f0 c1 f1
      have H := S.hset 4 0 (.bool (negB X)) rfl rfl (by intro q n e; cases e)
      replace S := S.set 4 0 (.bool (negB X)) rfl
      replace n1 := n1.hold H
      replace d1 := d1.hold H
      replace n2 := n2.hold H
      replace d2 := d2.hold H
      replace nn := nn.hold H
      replace nx := nx.hold H
      replace HH := HH.trans H
      clear H
      have H := S.hset 4 1 (.slice p l K) rfl rfl (by intro q n e; cases e)
      replace S := S.set 4 1 (.slice p l K) rfl
      replace n1 := n1.hold H
      replace d1 := d1.hold H
      replace n2 := n2.hold H
      replace d2 := d2.hold H
      replace nn := nn.hold H
      replace nx := nx.hold H
      replace HH := HH.trans H
      clear H
      refine hKK.out _ _ ⟨S.c 0 0 rfl rfl, S.c 0 1 rfl rfl, S.c 1 2 rfl rfl⟩ (fun hS => ?_)
      generalize ((w12.setCell ⟨w2.heap.size, 0, none⟩ (.bool (negB X))).setCell ⟨w2.heap.size, 1, none⟩ (.slice p l K)) = w13 at S n1 d1 n2 d2 nn nx HH hS ⊢
      clear hKK KK
      try simp only [Act.put, List.setIfInBounds_toArray, List.set_cons_zero, List.set_cons_succ]
      refine wpAnyH_ready (rs := [11]) (by kernel_rfl) (by simp) (AllReadyH.cons ((List.getElem?_toArray ..).trans rfl) (fun KK hKK => ?_) AllReadyH.nil)
      go_simp
      refine hKK.out _ _ hS (fun hS => ?_)
      clear hKK KK
      try simp only [Act.put, List.setIfInBounds_toArray, List.set_cons_zero, List.set_cons_succ]
      refine wpAnyH_done (by kernel_rfl) ?_ _
      go_wp2_with fail
      go_meet
      case rel => exact ⟨w2.heap.size, p, l, K, rfl, rfl, S, nx, HH⟩
  case rest =>
    obtain ⟨g7, p, l, K, rfl, rfl, S, nx, HH⟩ := hcut
    obtain ⟨w14, rfl⟩ : ∃ W : World, W = wc := ⟨_, rfl⟩
    replace n1 := n1.hold HH
    replace d1 := d1.hold HH
    replace n2 := n2.hold HH
    replace d2 := d2.hold HH
    clear HH
    have c0_0 := S.c 0 0 rfl rfl
    have c0_1 := S.c 0 1 rfl rfl
    have c0_2 := S.c 0 2 rfl rfl
    have c1_0 := S.c 1 0 rfl rfl
    have c1_1 := S.c 1 1 rfl rfl
    have c1_2 := S.c 1 2 rfl rfl
    have c2_0 := S.c 2 0 rfl rfl
    have c2_1 := S.c 2 1 rfl rfl
    have c3_0 := S.c 3 0 rfl rfl
    have c3_1 := S.c 3 1 rfl rfl
    have c4_0 := S.c 4 0 rfl rfl
    have c4_1 := S.c 4 1 rfl rfl
    go_upto_region 2 with fail
    clear c0_0 c0_1 c0_2 c1_0 c1_1 c1_2 c2_0 c2_1 c3_0 c3_1 c4_0 c4_1
    go_cut [9, 10] (fun s9 s10 wx => ∃ g9 pb lb Kb, s9 = .pointer (some ⟨g9, 0, none⟩) ∧ s10 = .int .i64 0 ∧ St w wx [(w.heap.size, 27, [.bool b1, .slice p1 l1 K1, .slice q1 j1 J1]), (w.heap.size + 1, 27, [.bool b2, .slice p2 l2 K2, .slice q2 j2 J2]), (w.heap.size + 1 + 1, 25, [.bool false, .slice none 0 0]), (w.heap.size + 1 + 1 + 1, 25, [.bool false, .slice none 0 0]), (g7, 25, [.bool (negB X), .slice p l K]), (g9, 25, [.bool (negB Y), .slice pb lb Kb])] ∧ IsNat wx (.slice pb lb Kb) Y.natAbs ∧ Hold w14 wx)
    case first =>
      have HH := Hold.drew w14
      replace n1 := n1.hold HH
      replace d1 := d1.hold HH
      replace n2 := n2.hold HH
      replace d2 := d2.hold HH
      replace nx := nx.hold HH
      replace S := S.drew
      refine wp_region_held_drew (S := fun W => W.cell? ⟨w.heap.size + 1, 0, none⟩ = some (.bool b2) ∧ W.cell? ⟨w.heap.size + 1, 1, none⟩ = some (.slice p2 l2 K2) ∧ W.cell? ⟨w.heap.size, 2, none⟩ = some (.slice q1 j1 J1)) (by kernel_rfl) ⟨S.c 1 0 rfl rfl, S.c 1 1 rfl rfl, S.c 0 2 rfl rfl⟩ (fun hS => ?_)
      generalize w14.drew = w15 at S n1 d1 n2 d2 nx HH hS ⊢
      refine wpAnyH_take (i := 0) (v := ?_) ((List.getElem?_toArray ..).trans rfl) (by kernel_rfl) (by kernel_rfl) (by kernel_rfl) (fun _ _ _ h => h) (Or.inl ⟨rfl, fun W hW => ?_⟩) hS ?_
      rotate_left
      · obtain ⟨hW0, hW1, hW2⟩ := hW; go_simp; try first | rfl | kernel_rfl
      try simp only [Act.put, List.setIfInBounds_toArray, List.set_cons_zero, List.set_cons_succ]
      refine wpAnyH_take (i := 1) (v := ?_) ((List.getElem?_toArray ..).trans rfl) (by kernel_rfl) (by kernel_rfl) (by kernel_rfl) (fun _ _ _ h => h) (Or.inl ⟨rfl, fun W hW => ?_⟩) hS ?_
      rotate_left
      · obtain ⟨hW0, hW1, hW2⟩ := hW; go_simp; try first | rfl | kernel_rfl
      try simp only [Act.put, List.setIfInBounds_toArray, List.set_cons_zero, List.set_cons_succ]
      refine wpAnyH_take (i := 2) (v := ?_) ((List.getElem?_toArray ..).trans rfl) (by kernel_rfl) (by kernel_rfl) (by kernel_rfl) (fun _ _ _ h => h) (Or.inl ⟨rfl, fun W hW => ?_⟩) hS ?_
      rotate_left
      · obtain ⟨hW0, hW1, hW2⟩ := hW; go_simp; try first | rfl | kernel_rfl
      try simp only [Act.put, List.setIfInBounds_toArray, List.set_cons_zero, List.set_cons_succ]
      refine wpAnyH_take (i := 3) (v := ?_) ((List.getElem?_toArray ..).trans rfl) (by kernel_rfl) (by kernel_rfl) (by kernel_rfl) (fun _ _ _ h => h) (Or.inl ⟨rfl, fun W hW => ?_⟩) hS ?_
      rotate_left
      · obtain ⟨hW0, hW1, hW2⟩ := hW; go_simp; try first | rfl | kernel_rfl
      try simp only [Act.put, List.setIfInBounds_toArray, List.set_cons_zero, List.set_cons_succ]
      refine wpAnyH_ready (rs := [4, 9]) (by kernel_rfl) (by simp) (AllReadyH.cons ((List.getElem?_toArray ..).trans rfl) (fun KK hKK => ?_) (AllReadyH.cons ((List.getElem?_toArray ..).trans rfl) (fun KK hKK => ?_) AllReadyH.nil))
      ·
        go_simp
        clear hS
        refine (S.call (wnat_any d1 HD.out.2.1 (x.den : Int) rfl)).mono ?_
        clear S
        rintro e w16 ⟨⟨_, rfl, pn, ln, Kn, rfl, nn⟩, S, H⟩
        replace n1 := n1.hold H
        replace d1 := d1.hold H
        replace n2 := n2.hold H
        replace d2 := d2.hold H
        replace nx := nx.hold H
        replace HH := HH.trans H
        clear H
        go_wp2_with fail
        refine hKK.out _ _ ⟨S.c 1 0 rfl rfl, S.c 1 1 rfl rfl, S.c 0 2 rfl rfl⟩ (fun hS => ?_)
        clear hKK KK
        try simp only [Act.put, List.setIfInBounds_toArray, List.set_cons_zero, List.set_cons_succ]
        refine wpAnyH_ready (rs := [5, 9]) (by kernel_rfl) (by simp) (AllReadyH.cons ((List.getElem?_toArray ..).trans rfl) (fun KK hKK => ?_) (AllReadyH.cons ((List.getElem?_toArray ..).trans rfl) (fun KK hKK => ?_) AllReadyH.nil))
        ·
          go_simp
          clear hS
          refine (S.call (wmul_to ⟨_, _, _, by rw [hb2.out], n2⟩ ⟨_, _, _, rfl, nn⟩ HD.out.2.2.1 HD.out.2.1 Y HD.out.2.2.2.2.2.1 HD.out.2.2.2.2.2.2.2)).mono ?_
          clear S
          rintro e w17 ⟨⟨_, rfl, pb, lb, Kb, rfl, ny⟩, S, H⟩
          replace n1 := n1.hold H
          replace d1 := d1.hold H
          replace n2 := n2.hold H
          replace d2 := d2.hold H
          replace nx := nx.hold H
          replace nn := nn.hold H
          replace HH := HH.trans H
          clear H
          go_wp2_with fail
          refine hKK.out _ _ ⟨S.c 1 0 rfl rfl, S.c 1 1 rfl rfl, S.c 0 2 rfl rfl⟩ (fun hS => ?_)
          clear hKK KK
          try simp only [Act.put, List.setIfInBounds_toArray, List.set_cons_zero, List.set_cons_succ]
          refine wpAnyH_take (i := 6) (v := ?_) ((List.getElem?_toArray ..).trans rfl) (by kernel_rfl) (by kernel_rfl) (by kernel_rfl) (fun _ _ _ h => h) (Or.inl ⟨rfl, fun W hW => ?_⟩) hS ?_
          rotate_left
          · obtain ⟨hW0, hW1, hW2⟩ := hW; go_simp; try first | rfl | kernel_rfl
          try simp only [Act.put, List.setIfInBounds_toArray, List.set_cons_zero, List.set_cons_succ]
          refine wpAnyH_take (i := 7) (v := ?_) ((List.getElem?_toArray ..).trans rfl) (by kernel_rfl) (by kernel_rfl) (by kernel_rfl) (fun _ _ _ h => h) (Or.inl ⟨rfl, fun W hW => ?_⟩) hS ?_
          rotate_left
          · obtain ⟨hW0, hW1, hW2⟩ := hW; go_simp; try first | rfl | kernel_rfl
          try simp only [Act.put, List.setIfInBounds_toArray, List.set_cons_zero, List.set_cons_succ]
          refine wpAnyH_take (i := 8) (v := ?_) ((List.getElem?_toArray ..).trans rfl) (by kernel_rfl) (by kernel_rfl) (by kernel_rfl) (fun _ _ _ h => h) (Or.inl ⟨rfl, fun W hW => ?_⟩) hS ?_
          rotate_left
          · obtain ⟨hW0, hW1, hW2⟩ := hW; go_simp; try first | rfl | kernel_rfl
          try simp only [Act.put, List.setIfInBounds_toArray, List.set_cons_zero, List.set_cons_succ]
          refine wpAnyH_ready (rs := [9]) (by kernel_rfl) (by simp) (AllReadyH.cons ((List.getElem?_toArray ..).trans rfl) (fun KK hKK => ?_) AllReadyH.nil)
          go_simp
          clear hS
          have H := S.hnew 25 [.bool false, .slice none 0 0]
          replace S := S.alloc 25 [.bool false, .slice none 0 0] (w17.heap.size)
          replace n1 := n1.hold H
          replace d1 := d1.hold H
          replace n2 := n2.hold H
          replace d2 := d2.hold H
          replace nx := nx.hold H
          replace nn := nn.hold H
          replace ny := ny.hold H
          replace HH := HH.trans H
          clear H
          refine hKK.out _ _ ⟨S.c 1 0 rfl rfl, S.c 1 1 rfl rfl, S.c 0 2 rfl rfl⟩ (fun hS => ?_)
          generalize (w17.alloc (.cells #[.bool false, .slice none 0 0] 25)) = w18 at S n1 d1 n2 d2 nx nn ny HH hS ⊢
          clear hKK KK
          try simp only [Act.put, List.setIfInBounds_toArray, List.set_cons_zero, List.set_cons_succ]
          refine wpAnyH_ready (rs := [10]) (by kernel_rfl) (by simp) (AllReadyH.cons ((List.getElem?_toArray ..).trans rfl) (fun KK hKK => ?_) AllReadyH.nil)
          have c0 := S.c 5 0 rfl rfl
          have f0 := S.f 5 0 rfl
          have c1 := S.c 5 1 rfl rfl
          have f1 := S.f 5 1 rfl
          go_simp
          clear hS c0 f0 c1 f1
          have H := S.hset 5 0 (.bool (negB Y)) rfl rfl (by intro q n e; cases e)
          replace S := S.set 5 0 (.bool (negB Y)) rfl
          replace n1 := n1.hold H
          replace d1 := d1.hold H
          replace n2 := n2.hold H
          replace d2 := d2.hold H
          replace nx := nx.hold H
          replace nn := nn.hold H
          replace ny := ny.hold H
          replace HH := HH.trans H
          clear H
          have H := S.hset 5 1 (.slice pb lb Kb) rfl rfl (by intro q n e; cases e)
          replace S := S.set 5 1 (.slice pb lb Kb) rfl
          replace n1 := n1.hold H
          replace d1 := d1.hold H
          replace n2 := n2.hold H
          replace d2 := d2.hold H
          replace nx := nx.hold H
          replace nn := nn.hold H
          replace ny := ny.hold H
          replace HH := HH.trans H
          clear H
          refine hKK.out _ _ ⟨S.c 1 0 rfl rfl, S.c 1 1 rfl rfl, S.c 0 2 rfl rfl⟩ (fun hS => ?_)
          generalize ((w18.setCell ⟨w17.heap.size, 0, none⟩ (.bool (negB Y))).setCell ⟨w17.heap.size, 1, none⟩ (.slice pb lb Kb)) = w19 at S n1 d1 n2 d2 nx nn ny HH hS ⊢
          clear hKK KK
          try simp only [Act.put, List.setIfInBounds_toArray, List.set_cons_zero, List.set_cons_succ]
          refine wpAnyH_ready (rs := [11]) (by kernel_rfl) (by simp) (AllReadyH.cons ((List.getElem?_toArray ..).trans rfl) (fun KK hKK => ?_) AllReadyH.nil)
          go_simp
          refine hKK.out _ _ hS (fun hS => ?_)
          clear hKK KK
          try simp only [Act.put, List.setIfInBounds_toArray, List.set_cons_zero, List.set_cons_succ]
          refine wpAnyH_done (by kernel_rfl) ?_ _
          go_wp2_with fail
          go_meet
          case rel => exact ⟨w17.heap.size, pb, lb, Kb, rfl, rfl, S, ny, HH⟩
        ·
          go_simp
          clear hS
          have H := S.hnew 25 [.bool false, .slice none 0 0]
          replace S := S.alloc 25 [.bool false, .slice none 0 0] (w16.heap.size)
          replace n1 := n1.hold H
          replace d1 := d1.hold H
          replace n2 := n2.hold H
          replace d2 := d2.hold H
          replace nx := nx.hold H
          replace nn := nn.hold H
          replace HH := HH.trans H
          clear H
          refine hKK.out _ _ ⟨S.c 1 0 rfl rfl, S.c 1 1 rfl rfl, S.c 0 2 rfl rfl⟩ (fun hS => ?_)
          generalize (w16.alloc (.cells #[.bool false, .slice none 0 0] 25)) = w20 at S n1 d1 n2 d2 nx nn HH hS ⊢
          clear hKK KK
          try simp only [Act.put, List.setIfInBounds_toArray, List.set_cons_zero, List.set_cons_succ]
          refine wpAnyH_ready (rs := [5]) (by kernel_rfl) (by simp) (AllReadyH.cons ((List.getElem?_toArray ..).trans rfl) (fun KK hKK => ?_) AllReadyH.nil)
          go_simp
          clear hS
          refine (S.call (wmul_to ⟨_, _, _, by rw [hb2.out], n2⟩ ⟨_, _, _, rfl, nn⟩ HD.out.2.2.1 HD.out.2.1 Y HD.out.2.2.2.2.2.1 HD.out.2.2.2.2.2.2.2)).mono ?_
          clear S
          rintro e w21 ⟨⟨_, rfl, pb, lb, Kb, rfl, ny⟩, S, H⟩
          replace n1 := n1.hold H
          replace d1 := d1.hold H
          replace n2 := n2.hold H
          replace d2 := d2.hold H
          replace nx := nx.hold H
          replace nn := nn.hold H
          replace HH := HH.trans H
          clear H
          go_wp2_with fail
          refine hKK.out _ _ ⟨S.c 1 0 rfl rfl, S.c 1 1 rfl rfl, S.c 0 2 rfl rfl⟩ (fun hS => ?_)
          clear hKK KK
          try simp only [Act.put, List.setIfInBounds_toArray, List.set_cons_zero, List.set_cons_succ]
          refine wpAnyH_take (i := 6) (v := ?_) ((List.getElem?_toArray ..).trans rfl) (by kernel_rfl) (by kernel_rfl) (by kernel_rfl) (fun _ _ _ h => h) (Or.inl ⟨rfl, fun W hW => ?_⟩) hS ?_
          rotate_left
          · obtain ⟨hW0, hW1, hW2⟩ := hW; go_simp; try first | rfl | kernel_rfl
          try simp only [Act.put, List.setIfInBounds_toArray, List.set_cons_zero, List.set_cons_succ]
          refine wpAnyH_take (i := 7) (v := ?_) ((List.getElem?_toArray ..).trans rfl) (by kernel_rfl) (by kernel_rfl) (by kernel_rfl) (fun _ _ _ h => h) (Or.inl ⟨rfl, fun W hW => ?_⟩) hS ?_
          rotate_left
          · obtain ⟨hW0, hW1, hW2⟩ := hW; go_simp; try first | rfl | kernel_rfl
          try simp only [Act.put, List.setIfInBounds_toArray, List.set_cons_zero, List.set_cons_succ]
          refine wpAnyH_take (i := 8) (v := ?_) ((List.getElem?_toArray ..).trans rfl) (by kernel_rfl) (by kernel_rfl) (by kernel_rfl) (fun _ _ _ h => h) (Or.inl ⟨rfl, fun W hW => ?_⟩) hS ?_
          rotate_left
          · obtain ⟨hW0, hW1, hW2⟩ := hW; go_simp; try first | rfl | kernel_rfl
          try simp only [Act.put, List.setIfInBounds_toArray, List.set_cons_zero, List.set_cons_succ]
          refine wpAnyH_ready (rs := [10]) (by kernel_rfl) (by simp) (AllReadyH.cons ((List.getElem?_toArray ..).trans rfl) (fun KK hKK => ?_) AllReadyH.nil)
          have c0 := S.c 5 0 rfl rfl
          have f0 := S.f 5 0 rfl
          have c1 := S.c 5 1 rfl rfl
          have f1 := S.f 5 1 rfl
          go_simp
          clear hS c0 f0 c1 f1
          have H := S.hset 5 0 (.bool (negB Y)) rfl rfl (by intro q n e; cases e)
          replace S := S.set 5 0 (.bool (negB Y)) rfl
          replace n1 := n1.hold H
          replace d1 := d1.hold H
          replace n2 := n2.hold H
          replace d2 := d2.hold H
          replace nx := nx.hold H
          replace nn := nn.hold H
          replace ny := ny.hold H
          replace HH := HH.trans H
          clear H
          have H := S.hset 5 1 (.slice pb lb Kb) rfl rfl (by intro q n e; cases e)
          replace S := S.set 5 1 (.slice pb lb Kb) rfl
          replace n1 := n1.hold H
          replace d1 := d1.hold H
          replace n2 := n2.hold H
          replace d2 := d2.hold H
          replace nx := nx.hold H
          replace nn := nn.hold H
          replace ny := ny.hold H
          replace HH := HH.trans H
          clear H
          refine hKK.out _ _ ⟨S.c 1 0 rfl rfl, S.c 1 1 rfl rfl, S.c 0 2 rfl rfl⟩ (fun hS => ?_)
          generalize ((w21.setCell ⟨w16.heap.size, 0, none⟩ (.bool (negB Y))).setCell ⟨w16.heap.size, 1, none⟩ (.slice pb lb Kb)) = w22 at S n1 d1 n2 d2 nx nn ny HH hS ⊢
          clear hKK KK
          try simp only [Act.put, List.setIfInBounds_toArray, List.set_cons_zero, List.set_cons_succ]
          refine wpAnyH_ready (rs := [11]) (by kernel_rfl) (by simp) (AllReadyH.cons ((List.getElem?_toArray ..).trans rfl) (fun KK hKK => ?_) AllReadyH.nil)
          go_simp
          refine hKK.out _ _ hS (fun hS => ?_)
          clear hKK KK
          try simp only [Act.put, List.setIfInBounds_toArray, List.set_cons_zero, List.set_cons_succ]
          refine wpAnyH_done (by kernel_rfl) ?_ _
          go_wp2_with fail
          go_meet
          case rel => exact ⟨w16.heap.size, pb, lb, Kb, rfl, rfl, S, ny, HH⟩
      ·
        go_simp
        clear hS
        have H := S.hnew 25 [.bool false, .slice none 0 0]
        replace S := S.alloc 25 [.bool false, .slice none 0 0] (w15.heap.size)
        replace n1 := n1.hold H
        replace d1 := d1.hold H
        replace n2 := n2.hold H
        replace d2 := d2.hold H
        replace nx := nx.hold H
        replace HH := HH.trans H
        clear H
        refine hKK.out _ _ ⟨S.c 1 0 rfl rfl, S.c 1 1 rfl rfl, S.c 0 2 rfl rfl⟩ (fun hS => ?_)
        generalize (w15.alloc (.cells #[.bool false, .slice none 0 0] 25)) = w23 at S n1 d1 n2 d2 nx HH hS ⊢
        clear hKK KK
        try simp only [Act.put, List.setIfInBounds_toArray, List.set_cons_zero, List.set_cons_succ]
        refine wpAnyH_ready (rs := [4]) (by kernel_rfl) (by simp) (AllReadyH.cons ((List.getElem?_toArray ..).trans rfl) (fun KK hKK => ?_) AllReadyH.nil)
        go_simp
        clear hS
        refine (S.call (wnat_any d1 HD.out.2.1 (x.den : Int) rfl)).mono ?_
        clear S
        rintro e w24 ⟨⟨_, rfl, pn, ln, Kn, rfl, nn⟩, S, H⟩
        replace n1 := n1.hold H
        replace d1 := d1.hold H
        replace n2 := n2.hold H
        replace d2 := d2.hold H
        replace nx := nx.hold H
        replace HH := HH.trans H
        clear H
        go_wp2_with fail
        refine hKK.out _ _ ⟨S.c 1 0 rfl rfl, S.c 1 1 rfl rfl, S.c 0 2 rfl rfl⟩ (fun hS => ?_)
        clear hKK KK
        try simp only [Act.put, List.setIfInBounds_toArray, List.set_cons_zero, List.set_cons_succ]
        refine wpAnyH_ready (rs := [5]) (by kernel_rfl) (by simp) (AllReadyH.cons ((List.getElem?_toArray ..).trans rfl) (fun KK hKK => ?_) AllReadyH.nil)
        go_simp
        clear hS
        refine (S.call (wmul_to ⟨_, _, _, by rw [hb2.out], n2⟩ ⟨_, _, _, rfl, nn⟩ HD.out.2.2.1 HD.out.2.1 Y HD.out.2.2.2.2.2.1 HD.out.2.2.2.2.2.2.2)).mono ?_
        clear S
        rintro e w25 ⟨⟨_, rfl, pb, lb, Kb, rfl, ny⟩, S, H⟩
        replace n1 := n1.hold H
        replace d1 := d1.hold H
        replace n2 := n2.hold H
        replace d2 := d2.hold H
        replace nx := nx.hold H
        replace nn := nn.hold H
        replace HH := HH.trans H
        clear H
        go_wp2_with fail
        refine hKK.out _ _ ⟨S.c 1 0 rfl rfl, S.c 1 1 rfl rfl, S.c 0 2 rfl rfl⟩ (fun hS => ?_)
        clear hKK KK
        try simp only [Act.put, List.setIfInBounds_toArray, List.set_cons_zero, List.set_cons_succ]
        refine wpAnyH_take (i := 6) (v := ?_) ((List.getElem?_toArray ..).trans rfl) (by kernel_rfl) (by kernel_rfl) (by kernel_rfl) (fun _ _ _ h => h) (Or.inl ⟨rfl, fun W hW => ?_⟩) hS ?_
        rotate_left
        · obtain ⟨hW0, hW1, hW2⟩ := hW; go_simp; try first | rfl | kernel_rfl
        try simp only [Act.put, List.setIfInBounds_toArray, List.set_cons_zero, List.set_cons_succ]
        refine wpAnyH_take (i := 7) (v := ?_) ((List.getElem?_toArray ..).trans rfl) (by kernel_rfl) (by kernel_rfl) (by kernel_rfl) (fun _ _ _ h => h) (Or.inl ⟨rfl, fun W hW => ?_⟩) hS ?_
        rotate_left
        · obtain ⟨hW0, hW1, hW2⟩ := hW; go_simp; try first | rfl | kernel_rfl
        try simp only [Act.put, List.setIfInBounds_toArray, List.set_cons_zero, List.set_cons_succ]
        refine wpAnyH_take (i := 8) (v := ?_) ((List.getElem?_toArray ..).trans rfl) (by kernel_rfl) (by kernel_rfl) (by kernel_rfl) (fun _ _ _ h => h) (Or.inl ⟨rfl, fun W hW => ?_⟩) hS ?_
        rotate_left
        · obtain ⟨hW0, hW1, hW2⟩ := hW; go_simp; try first | rfl | kernel_rfl
        try simp only [Act.put, List.setIfInBounds_toArray, List.set_cons_zero, List.set_cons_succ]
        refine wpAnyH_ready (rs := [10]) (by kernel_rfl) (by simp) (AllReadyH.cons ((List.getElem?_toArray ..).trans rfl) (fun KK hKK => ?_) AllReadyH.nil)
        have c0 := S.c 5 0 rfl rfl
        have f0 := S.f 5 0 rfl
        have c1 := S.c 5 1 rfl rfl
        have f1 := S.f 5 1 rfl
        go_simp
        clear hS c0 f0 c1 f1
        have H := S.hset 5 0 (.bool (negB Y)) rfl rfl (by intro q n e; cases e)
        replace S := S.set 5 0 (.bool (negB Y)) rfl
        replace n1 := n1.hold H
        replace d1 := d1.hold H
        replace n2 := n2.hold H
        replace d2 := d2.hold H
        replace nx := nx.hold H
        replace nn := nn.hold H
        replace ny := ny.hold H
        replace HH := HH.trans H
        clear H
        have H := S.hset 5 1 (.slice pb lb Kb) rfl rfl (by intro q n e; cases e)
        replace S := S.set 5 1 (.slice pb lb Kb) rfl
        replace n1 := n1.hold H
        replace d1 := d1.hold H
        replace n2 := n2.hold H
        replace d2 := d2.hold H
        replace nx := nx.hold H
        replace nn := nn.hold H
        replace ny := ny.hold H
        replace HH := HH.trans H
        clear H
        refine hKK.out _ _ ⟨S.c 1 0 rfl rfl, S.c 1 1 rfl rfl, S.c 0 2 rfl rfl⟩ (fun hS => ?_)
        generalize ((w25.setCell ⟨w15.heap.size, 0, none⟩ (.bool (negB Y))).setCell ⟨w15.heap.size, 1, none⟩ (.slice pb lb Kb)) = w26 at S n1 d1 n2 d2 nx nn ny HH hS ⊢
        clear hKK KK
        try simp only [Act.put, List.setIfInBounds_toArray, List.set_cons_zero, List.set_cons_succ]
        refine wpAnyH_ready (rs := [11]) (by kernel_rfl) (by simp) (AllReadyH.cons ((List.getElem?_toArray ..).trans rfl) (fun KK hKK => ?_) AllReadyH.nil)
        go_simp
        refine hKK.out _ _ hS (fun hS => ?_)
        clear hKK KK
        try simp only [Act.put, List.setIfInBounds_toArray, List.set_cons_zero, List.set_cons_succ]
        refine wpAnyH_done (by kernel_rfl) ?_ _
        go_wp2_with fail
        go_meet
        case rel => exact ⟨w15.heap.size, pb, lb, Kb, rfl, rfl, S, ny, HH⟩
    case rest =>
      obtain ⟨g9, pb, lb, Kb, rfl, rfl, S, ny, HH⟩ := hcut
      obtain ⟨w27, rfl⟩ : ∃ W : World, W = wc := ⟨_, rfl⟩
      replace n1 := n1.hold HH
      replace d1 := d1.hold HH
      replace n2 := n2.hold HH
      replace d2 := d2.hold HH
      replace nx := nx.hold HH
      clear HH
      have c0_0 := S.c 0 0 rfl rfl
      have c0_1 := S.c 0 1 rfl rfl
      have c0_2 := S.c 0 2 rfl rfl
      have c1_0 := S.c 1 0 rfl rfl
      have c1_1 := S.c 1 1 rfl rfl
      have c1_2 := S.c 1 2 rfl rfl
      have c2_0 := S.c 2 0 rfl rfl
      have c2_1 := S.c 2 1 rfl rfl
      have c3_0 := S.c 3 0 rfl rfl
      have c3_1 := S.c 3 1 rfl rfl
      have c4_0 := S.c 4 0 rfl rfl
      have c4_1 := S.c 4 1 rfl rfl
      have c5_0 := S.c 5 0 rfl rfl
      have c5_1 := S.c 5 1 rfl rfl
      go_upto_region 3 with fail
      clear c0_0 c0_1 c0_2 c1_0 c1_1 c1_2 c2_0 c2_1 c3_0 c3_1 c4_0 c4_1 c5_0 c5_1
      have HH := Hold.drew w27
      replace n1 := n1.hold HH
      replace d1 := d1.hold HH
      replace n2 := n2.hold HH
      replace d2 := d2.hold HH
      replace nx := nx.hold HH
      replace ny := ny.hold HH
      replace S := S.drew
      refine wp_region_held_drew (S := fun W => W.cell? ⟨g7, 0, none⟩ = some (.bool (negB X)) ∧ W.cell? ⟨g7, 1, none⟩ = some (.slice p l K) ∧ W.cell? ⟨g9, 0, none⟩ = some (.bool (negB Y)) ∧ W.cell? ⟨g9, 1, none⟩ = some (.slice pb lb Kb)) (by kernel_rfl) ⟨S.c 4 0 rfl rfl, S.c 4 1 rfl rfl, S.c 5 0 rfl rfl, S.c 5 1 rfl rfl⟩ (fun hS => ?_)
      generalize w27.drew = w28 at S n1 d1 n2 d2 nx ny HH hS ⊢
      refine wpAnyH_take (i := 0) (v := ?_) ((List.getElem?_toArray ..).trans rfl) (by kernel_rfl) (by kernel_rfl) (by kernel_rfl) (fun _ _ _ h => h) (Or.inl ⟨rfl, fun W hW => ?_⟩) hS ?_
      rotate_left
      · obtain ⟨hW0, hW1, hW2, hW3⟩ := hW; go_simp; try first | rfl | kernel_rfl
      try simp only [Act.put, List.setIfInBounds_toArray, List.set_cons_zero, List.set_cons_succ]
      refine wpAnyH_take (i := 1) (v := ?_) ((List.getElem?_toArray ..).trans rfl) (by kernel_rfl) (by kernel_rfl) (by kernel_rfl) (fun _ _ _ h => h) (Or.inl ⟨rfl, fun W hW => ?_⟩) hS ?_
      rotate_left
      · obtain ⟨hW0, hW1, hW2, hW3⟩ := hW; go_simp; try first | rfl | kernel_rfl
      try simp only [Act.put, List.setIfInBounds_toArray, List.set_cons_zero, List.set_cons_succ]
      refine wpAnyH_take (i := 2) (v := ?_) ((List.getElem?_toArray ..).trans rfl) (by kernel_rfl) (by kernel_rfl) (by kernel_rfl) (fun _ _ _ h => h) (Or.inl ⟨rfl, fun W hW => ?_⟩) hS ?_
      rotate_left
      · obtain ⟨hW0, hW1, hW2, hW3⟩ := hW; go_simp; try first | rfl | kernel_rfl
      try simp only [Act.put, List.setIfInBounds_toArray, List.set_cons_zero, List.set_cons_succ]
      refine wpAnyH_take (i := 3) (v := ?_) ((List.getElem?_toArray ..).trans rfl) (by kernel_rfl) (by kernel_rfl) (by kernel_rfl) (fun _ _ _ h => h) (Or.inl ⟨rfl, fun W hW => ?_⟩) hS ?_
      rotate_left
      · obtain ⟨hW0, hW1, hW2, hW3⟩ := hW; go_simp; try first | rfl | kernel_rfl
      try simp only [Act.put, List.setIfInBounds_toArray, List.set_cons_zero, List.set_cons_succ]
      refine wpAnyH_ready (rs := [4]) (by kernel_rfl) (by simp) (AllReadyH.cons ((List.getElem?_toArray ..).trans rfl) (fun KK hKK => ?_) AllReadyH.nil)
      go_simp
      clear hS
      have H := S.hnew 31 [.int .i64 0, .int .i64 0]
      replace S := S.alloc 31 [.int .i64 0, .int .i64 0] (w28.heap.size)
      replace n1 := n1.hold H
      replace d1 := d1.hold H
      replace n2 := n2.hold H
      replace d2 := d2.hold H
      replace nx := nx.hold H
      replace ny := ny.hold H
      replace HH := HH.trans H
      clear H
      refine hKK.out _ _ ⟨S.c 4 0 rfl rfl, S.c 4 1 rfl rfl, S.c 5 0 rfl rfl, S.c 5 1 rfl rfl⟩ (fun hS => ?_)
      generalize (w28.alloc (.cells #[.int .i64 0, .int .i64 0] 31)) = w29 at S n1 d1 n2 d2 nx ny HH hS ⊢
      clear hKK KK
      try simp only [Act.put, List.setIfInBounds_toArray, List.set_cons_zero, List.set_cons_succ]
      refine wpAnyH_ready (rs := [5]) (by kernel_rfl) (by simp) (AllReadyH.cons ((List.getElem?_toArray ..).trans rfl) (fun KK hKK => ?_) AllReadyH.nil)
      go_simp
      clear hS
      refine (S.call (or_two S 6 rfl)).mono ?_
      clear S
      rintro e w30 ⟨rfl, S, H⟩
      replace n1 := n1.hold H
      replace d1 := d1.hold H
      replace n2 := n2.hold H
      replace d2 := d2.hold H
      replace nx := nx.hold H
      replace ny := ny.hold H
      replace HH := HH.trans H
      clear H
      go_wp2_with fail
      refine hKK.out _ _ ⟨S.c 4 0 rfl rfl, S.c 4 1 rfl rfl, S.c 5 0 rfl rfl, S.c 5 1 rfl rfl⟩ (fun hS => ?_)
      clear hKK KK
      try simp only [Act.put, List.setIfInBounds_toArray, List.set_cons_zero, List.set_cons_succ]
      refine wpAnyH_ready (rs := [6]) (by kernel_rfl) (by simp) (AllReadyH.cons ((List.getElem?_toArray ..).trans rfl) (fun KK hKK => ?_) AllReadyH.nil)
      have c0 := S.c 2 0 rfl rfl
      have f0 := S.f 2 0 rfl
      have c1 := S.c 2 1 rfl rfl
      have f1 := S.f 2 1 rfl
      go_simp
      clear hS c0 f0 c1 f1
      have H := S.hset 2 0 (.bool (negB X)) rfl rfl (by intro q n e; cases e)
      replace S := S.set 2 0 (.bool (negB X)) rfl
      replace n1 := n1.hold H
      replace d1 := d1.hold H
      replace n2 := n2.hold H
      replace d2 := d2.hold H
      replace nx := nx.hold H
      replace ny := ny.hold H
      replace HH := HH.trans H
      clear H
      have H := S.hset 2 1 (.slice p l K) rfl rfl (by intro q n e; cases e)
      replace S := S.set 2 1 (.slice p l K) rfl
      replace n1 := n1.hold H
      replace d1 := d1.hold H
      replace n2 := n2.hold H
      replace d2 := d2.hold H
      replace nx := nx.hold H
      replace ny := ny.hold H
      replace HH := HH.trans H
      clear H
      refine hKK.out _ _ ⟨S.c 4 0 rfl rfl, S.c 4 1 rfl rfl, S.c 5 0 rfl rfl, S.c 5 1 rfl rfl⟩ (fun hS => ?_)
      generalize ((w30.setCell ⟨w.heap.size + 1 + 1, 0, none⟩ (.bool (negB X))).setCell ⟨w.heap.size + 1 + 1, 1, none⟩ (.slice p l K)) = w31 at S n1 d1 n2 d2 nx ny HH hS ⊢
      clear hKK KK
      try simp only [Act.put, List.setIfInBounds_toArray, List.set_cons_zero, List.set_cons_succ]
      refine wpAnyH_ready (rs := [7]) (by kernel_rfl) (by simp) (AllReadyH.cons ((List.getElem?_toArray ..).trans rfl) (fun KK hKK => ?_) AllReadyH.nil)
      have c0 := S.c 3 0 rfl rfl
      have f0 := S.f 3 0 rfl
      have c1 := S.c 3 1 rfl rfl
      have f1 := S.f 3 1 rfl
      go_simp
      clear hS c0 f0 c1 f1
      have H := S.hset 3 0 (.bool (negB Y)) rfl rfl (by intro q n e; cases e)
      replace S := S.set 3 0 (.bool (negB Y)) rfl
      replace n1 := n1.hold H
      replace d1 := d1.hold H
      replace n2 := n2.hold H
      replace d2 := d2.hold H
      replace nx := nx.hold H
      replace ny := ny.hold H
      replace HH := HH.trans H
      clear H
      have H := S.hset 3 1 (.slice pb lb Kb) rfl rfl (by intro q n e; cases e)
      replace S := S.set 3 1 (.slice pb lb Kb) rfl
      replace n1 := n1.hold H
      replace d1 := d1.hold H
      replace n2 := n2.hold H
      replace d2 := d2.hold H
      replace nx := nx.hold H
      replace ny := ny.hold H
      replace HH := HH.trans H
      clear H
      refine hKK.out _ _ ⟨S.c 4 0 rfl rfl, S.c 4 1 rfl rfl, S.c 5 0 rfl rfl, S.c 5 1 rfl rfl⟩ (fun hS => ?_)
      generalize ((w31.setCell ⟨w.heap.size + 1 + 1 + 1, 0, none⟩ (.bool (negB Y))).setCell ⟨w.heap.size + 1 + 1 + 1, 1, none⟩ (.slice pb lb Kb)) = w32 at S n1 d1 n2 d2 nx ny HH hS ⊢
      clear hKK KK
      try simp only [Act.put, List.setIfInBounds_toArray, List.set_cons_zero, List.set_cons_succ]
      refine wpAnyH_ready (rs := [8]) (by kernel_rfl) (by simp) (AllReadyH.cons ((List.getElem?_toArray ..).trans rfl) (fun KK hKK => ?_) AllReadyH.nil)
      go_simp
      refine hKK.out _ _ hS (fun hS => ?_)
      clear hKK KK
      try simp only [Act.put, List.setIfInBounds_toArray, List.set_cons_zero, List.set_cons_succ]
      refine wpAnyH_done (by kernel_rfl) ?_ _
      clear hS HH
      have c0_0 := S.c 0 0 rfl rfl
      have c0_1 := S.c 0 1 rfl rfl
      have c0_2 := S.c 0 2 rfl rfl
      have c1_0 := S.c 1 0 rfl rfl
      have c1_1 := S.c 1 1 rfl rfl
      have c1_2 := S.c 1 2 rfl rfl
      have c2_0 := S.c 2 0 rfl rfl
      have c2_1 := S.c 2 1 rfl rfl
      have c3_0 := S.c 3 0 rfl rfl
      have c3_1 := S.c 3 1 rfl rfl
      have c4_0 := S.c 4 0 rfl rfl
      have c4_1 := S.c 4 1 rfl rfl
      have c5_0 := S.c 5 0 rfl rfl
      have c5_1 := S.c 5 1 rfl rfl
      go_wp2_with fail
      have d2_0 := S.c 2 0 rfl rfl
      have d2_1 := S.c 2 1 rfl rfl
      have d3_0 := S.c 3 0 rfl rfl
      have d3_1 := S.c 3 1 rfl rfl
      exact bodyPost_ret (v := .tuple #[.agg #[.bool (negB X), .slice p l K], .agg #[.bool (negB Y), .slice pb lb Kb], .int .i64 0]) (by simp [results, Tryz.f52, go_sem, d2_0, d2_1, d3_0, d3_1]) rfl (⟨⟨_, _, rfl, ⟨p, l, K, rfl, nx⟩, ⟨pb, lb, Kb, rfl, ny⟩⟩, S.below⟩)

end Go.Proofs.YtggnjlbnfgjgdaaGreat

namespace Go.Proofs.YtggnjlbnfgjgdaaGreat
open Go.RowKit

/-- What Make reckons, and what the ratio is. -/
theorem make_parts (n d : Int) (h0 : d ≠ 0) : 0 < Nat.gcd n.natAbs d.natAbs ∧ (Rat.divInt n d).den = d.natAbs / Nat.gcd n.natAbs d.natAbs ∧ (0 < d → (Rat.divInt n d).num = n / ((Nat.gcd n.natAbs d.natAbs : Nat) : Int)) ∧ (d < 0 → (Rat.divInt n d).num = -(n / ((Nat.gcd n.natAbs d.natAbs : Nat) : Int))) := by
  have hg : Int.gcd d n = Nat.gcd n.natAbs d.natAbs := by rw [Int.gcd_eq_natAbs_gcd_natAbs, Nat.gcd_comm]
  have hdvd : ((Nat.gcd n.natAbs d.natAbs : Nat) : Int) ∣ n := Int.ofNat_dvd_left.2 (Nat.gcd_dvd_left _ _)
  refine ⟨Nat.gcd_pos_of_pos_right _ (by omega), ?_, fun h => ?_, fun h => ?_⟩
  · rw [Rat.den_divInt, if_neg h0, hg]
  · rw [Rat.num_divInt, hg, Int.sign_eq_one_of_pos h, Int.one_mul]
  · rw [Rat.num_divInt, hg, Int.sign_eq_neg_one_of_neg h, Int.neg_one_mul, Int.neg_ediv_of_dvd hdvd]

set_option maxRecDepth 100000 in
set_option maxHeartbeats 8000000 in
theorem rmake_any {va vb : Value} {n d : Int} {w : World} (ha : IsInt w va n) (hb : IsInt w vb d) (hn : n.natAbs < maxN) (hd : d.natAbs < maxN) (h0 : d ≠ 0) (q : Rat) (hq : q = Rat.divInt n d) :
    Calls Tryz.prog 51 #[va, vb] w fun e w' => (∃ u, e = .returned (.tuple #[u, .int .i64 0]) ∧ IsRat w' u q) ∧ Below w.heap.size w w' := by
  obtain ⟨p1, l1, K1, rfl, n1⟩ := ha
  obtain ⟨p2, l2, K2, rfl, n2⟩ := hb
  obtain ⟨b1, hb1⟩ : ∃ b1, negB n = b1 := ⟨_, rfl⟩
  obtain ⟨b2, hb2⟩ : ∃ b2, negB d = b2 := ⟨_, rfl⟩
  rw [hb1, hb2]
  obtain ⟨g, hg⟩ : ∃ g, Nat.gcd n.natAbs d.natAbs = g := ⟨_, rfl⟩
  have mp := make_parts n d h0
  rw [hg, ← hq] at mp
  obtain ⟨z, hz⟩ : ∃ z, n / (g : Int) = z := ⟨_, rfl⟩
  obtain ⟨zr, hzr⟩ : ∃ z, n % (g : Int) = z := ⟨_, rfl⟩
  obtain ⟨y, hy⟩ : ∃ z, ((d.natAbs : Nat) : Int) / (g : Int) = z := ⟨_, rfl⟩
  obtain ⟨yr, hyr⟩ : ∃ z, ((d.natAbs : Nat) : Int) % (g : Int) = z := ⟨_, rfl⟩
  rw [hz] at mp
  have hgm : g < maxN := by
    have : g ≤ d.natAbs := hg ▸ Nat.gcd_le_right _ (by omega)
    omega
  have hyd : y.natAbs = q.den := by
    rw [← hy, mp.2.1, ← Int.natCast_ediv, Int.natAbs_natCast]
  have hzm : z.natAbs < maxN := hz ▸ Nat.lt_of_le_of_lt (Int.natAbs_ediv_le_natAbs _ _) hn
  have hg0 : ((g : Nat) : Int) ≠ 0 := by have := mp.1; omega
  have hq1 : b2 = false → q.num = z := fun e => mp.2.2.1 (by
    by_cases h : d < 0
    · rw [negB_pos h, e] at hb2; cases hb2
    · omega)
  have hq2 : b2 = true → q.num = -z := fun e => mp.2.2.2 (by
    by_cases h : d < 0
    · exact h
    · rw [negB_neg h, e] at hb2; cases hb2)
  obtain ⟨s, hs⟩ : ∃ s, d.sign = s := ⟨_, rfl⟩
  have hs0 : ¬ s = 0 := by rw [← hs]; exact fun h => h0 (Int.sign_eq_zero_iff_zero.1 h)
  have hs1 : (s == 0) = false := by simpa using hs0
  have HD := Lib.hid (And.intro hb1 (And.intro hb2 (And.intro hn (And.intro hd hs))))
  have HG := Lib.hid (And.intro hg (And.intro hgm hg0))
  have HZ := Lib.hid (And.intro hz (And.intro hzr (And.intro hy hyr)))
  have HQ := Lib.hid (And.intro hyd (And.intro hzm (And.intro hq1 hq2)))
  clear hb1 hb2 hn hd hs hg hgm hg0 hz hzr hy hyr hyd hzm hq1 hq2 mp hq h0
  have S := (((St.start w).alloc 25 [.bool b1, .slice p1 l1 K1] (w.heap.size)).alloc 25 [.bool b2, .slice p2 l2 K2] (w.heap.size + 1)).alloc 27 [.bool false, .slice none 0 0, .slice none 0 0] (w.heap.size + 1 + 1)
  replace n1 := n1.hold S.hold
  replace n2 := n2.hold S.hold
  have c0_0 := S.c 0 0 rfl rfl
  have c0_1 := S.c 0 1 rfl rfl
  have c1_0 := S.c 1 0 rfl rfl
  have c1_1 := S.c 1 1 rfl rfl
  have c2_0 := S.c 2 0 rfl rfl
  have c2_1 := S.c 2 1 rfl rfl
  have c2_2 := S.c 2 2 rfl rfl
  go_enter Tryz.func51, Tryz.ntmps51
  go_wp2_with fail
  clear c0_0 c0_1 c1_0 c1_1 c2_0 c2_1 c2_2
  refine (S.call (wsign_any ⟨_, _, _, by rw [HD.out.2.1], n2⟩ HD.out.2.2.2.1 HD.out.2.2.2.2)).mono ?_
  clear S
  rintro e w1 ⟨rfl, S, H⟩
  replace n1 := n1.hold H
  replace n2 := n2.hold H
  clear H
  have c0_0 := S.c 0 0 rfl rfl
  have c0_1 := S.c 0 1 rfl rfl
  have c1_0 := S.c 1 0 rfl rfl
  have c1_1 := S.c 1 1 rfl rfl
  have c2_0 := S.c 2 0 rfl rfl
  have c2_1 := S.c 2 1 rfl rfl
  have c2_2 := S.c 2 2 rfl rfl
  go_upto_region 3 with fail
  clear c0_0 c0_1 c1_0 c1_1 c2_0 c2_1 c2_2
  have HH := Hold.drew w1
  replace n1 := n1.hold HH
  replace n2 := n2.hold HH
  replace S := S.drew
  refine wp_region_held_drew (S := fun W => W.cell? ⟨w.heap.size, 0, none⟩ = some (.bool b1) ∧ W.cell? ⟨w.heap.size, 1, none⟩ = some (.slice p1 l1 K1) ∧ W.cell? ⟨w.heap.size + 1, 0, none⟩ = some (.bool b2) ∧ W.cell? ⟨w.heap.size + 1, 1, none⟩ = some (.slice p2 l2 K2)) (by kernel_rfl) ⟨S.c 0 0 rfl rfl, S.c 0 1 rfl rfl, S.c 1 0 rfl rfl, S.c 1 1 rfl rfl⟩ (fun hS => ?_)
  generalize w1.drew = w2 at S n1 n2 HH hS ⊢
  refine wpAnyH_take (i := 0) (v := ?_) ((List.getElem?_toArray ..).trans rfl) (by kernel_rfl) (by kernel_rfl) (by kernel_rfl) (fun _ _ _ h => h) (Or.inl ⟨rfl, fun W hW => ?_⟩) hS ?_
  rotate_left
  · obtain ⟨hW0, hW1, hW2, hW3⟩ := hW; go_simp; try first | rfl | kernel_rfl
  try simp only [Act.put, List.setIfInBounds_toArray, List.set_cons_zero, List.set_cons_succ]
  refine wpAnyH_take (i := 2) (v := ?_) ((List.getElem?_toArray ..).trans rfl) (by kernel_rfl) (by kernel_rfl) (by kernel_rfl) (fun _ _ _ h => h) (Or.inl ⟨rfl, fun W hW => ?_⟩) hS ?_
  rotate_left
  · obtain ⟨hW0, hW1, hW2, hW3⟩ := hW; go_simp; try first | rfl | kernel_rfl
  try simp only [Act.put, List.setIfInBounds_toArray, List.set_cons_zero, List.set_cons_succ]
  refine wpAnyH_ready (rs := [1]) (by kernel_rfl) (by simp) (AllReadyH.cons ((List.getElem?_toArray ..).trans rfl) (fun KK hKK => ?_) AllReadyH.nil)
  go_simp
  clear hS
  refine (S.call (wcheck_any ⟨_, _, _, by rw [HD.out.1], n1⟩ HD.out.2.2.1)).mono ?_
  clear S
  rintro e w3 ⟨rfl, S, H⟩
  replace n1 := n1.hold H
  replace n2 := n2.hold H
  replace HH := HH.trans H
  clear H
  go_wp2_with fail
  refine hKK.out _ _ ⟨S.c 0 0 rfl rfl, S.c 0 1 rfl rfl, S.c 1 0 rfl rfl, S.c 1 1 rfl rfl⟩ (fun hS => ?_)
  clear hKK KK
  try simp only [Act.put, List.setIfInBounds_toArray, List.set_cons_zero, List.set_cons_succ]
  refine wpAnyH_ready (rs := [3]) (by kernel_rfl) (by simp) (AllReadyH.cons ((List.getElem?_toArray ..).trans rfl) (fun KK hKK => ?_) AllReadyH.nil)
  go_simp
  clear hS
  refine (S.call (wcheck_any ⟨_, _, _, by rw [HD.out.2.1], n2⟩ HD.out.2.2.2.1)).mono ?_
  clear S
  rintro e w4 ⟨rfl, S, H⟩
  replace n1 := n1.hold H
  replace n2 := n2.hold H
  replace HH := HH.trans H
  clear H
  go_wp2_with fail
  refine hKK.out _ _ ⟨S.c 0 0 rfl rfl, S.c 0 1 rfl rfl, S.c 1 0 rfl rfl, S.c 1 1 rfl rfl⟩ (fun hS => ?_)
  clear hKK KK
  try simp only [Act.put, List.setIfInBounds_toArray, List.set_cons_zero, List.set_cons_succ]
  refine wpAnyH_ready (rs := [4]) (by kernel_rfl) (by simp) (AllReadyH.cons ((List.getElem?_toArray ..).trans rfl) (fun KK hKK => ?_) AllReadyH.nil)
  go_simp
  clear hS
  have H := S.hnew 31 [.int .i64 0, .int .i64 0]
  replace S := S.alloc 31 [.int .i64 0, .int .i64 0] (w4.heap.size)
  replace n1 := n1.hold H
  replace n2 := n2.hold H
  replace HH := HH.trans H
  clear H
  refine hKK.out _ _ ⟨S.c 0 0 rfl rfl, S.c 0 1 rfl rfl, S.c 1 0 rfl rfl, S.c 1 1 rfl rfl⟩ (fun hS => ?_)
  generalize (w4.alloc (.cells #[.int .i64 0, .int .i64 0] 31)) = w5 at S n1 n2 HH hS ⊢
  clear hKK KK
  try simp only [Act.put, List.setIfInBounds_toArray, List.set_cons_zero, List.set_cons_succ]
  refine wpAnyH_ready (rs := [5]) (by kernel_rfl) (by simp) (AllReadyH.cons ((List.getElem?_toArray ..).trans rfl) (fun KK hKK => ?_) AllReadyH.nil)
  go_simp
  clear hS
  refine (S.call (or_two S 3 rfl)).mono ?_
  clear S
  rintro e w6 ⟨rfl, S, H⟩
  replace n1 := n1.hold H
  replace n2 := n2.hold H
  replace HH := HH.trans H
  clear H
  go_wp2_with fail
  refine hKK.out _ _ ⟨S.c 0 0 rfl rfl, S.c 0 1 rfl rfl, S.c 1 0 rfl rfl, S.c 1 1 rfl rfl⟩ (fun hS => ?_)
  clear hKK KK
  try simp only [Act.put, List.setIfInBounds_toArray, List.set_cons_zero, List.set_cons_succ]
  refine wpAnyH_ready (rs := [6]) (by kernel_rfl) (by simp) (AllReadyH.cons ((List.getElem?_toArray ..).trans rfl) (fun KK hKK => ?_) AllReadyH.nil)
  go_simp
  refine hKK.out _ _ hS (fun hS => ?_)
  clear hKK KK
  try simp only [Act.put, List.setIfInBounds_toArray, List.set_cons_zero, List.set_cons_succ]
  refine wpAnyH_done (by kernel_rfl) ?_ _
  clear hS HH
  have c0_0 := S.c 0 0 rfl rfl
  have c0_1 := S.c 0 1 rfl rfl
  have c1_0 := S.c 1 0 rfl rfl
  have c1_1 := S.c 1 1 rfl rfl
  have c2_0 := S.c 2 0 rfl rfl
  have c2_1 := S.c 2 1 rfl rfl
  have c2_2 := S.c 2 2 rfl rfl
  go_wp2_with fail
  clear c0_0 c0_1 c1_0 c1_1 c2_0 c2_1 c2_2
  refine (S.call (gcd_any n1 n2 HD.out.2.2.1 HD.out.2.2.2.1)).mono ?_
  clear S
  rintro e w7 ⟨⟨vg, rfl, ng⟩, S, H⟩
  replace n1 := n1.hold H
  replace n2 := n2.hold H
  clear H
  have c0_0 := S.c 0 0 rfl rfl
  have c0_1 := S.c 0 1 rfl rfl
  have c1_0 := S.c 1 0 rfl rfl
  have c1_1 := S.c 1 1 rfl rfl
  have c2_0 := S.c 2 0 rfl rfl
  have c2_1 := S.c 2 1 rfl rfl
  have c2_2 := S.c 2 2 rfl rfl
  rw [HG.out.1] at ng
  go_wp2_with fail
  clear c0_0 c0_1 c1_0 c1_1 c2_0 c2_1 c2_2
  refine (S.call (wnat_any ng HG.out.2.1 (g : Int) rfl)).mono ?_
  clear S
  rintro e w8 ⟨⟨_, rfl, pc, lc, Kc, rfl, nc⟩, S, H⟩
  replace n1 := n1.hold H
  replace n2 := n2.hold H
  replace ng := ng.hold H
  clear H
  have c0_0 := S.c 0 0 rfl rfl
  have c0_1 := S.c 0 1 rfl rfl
  have c1_0 := S.c 1 0 rfl rfl
  have c1_1 := S.c 1 1 rfl rfl
  have c2_0 := S.c 2 0 rfl rfl
  have c2_1 := S.c 2 1 rfl rfl
  have c2_2 := S.c 2 2 rfl rfl
  have H := S.hnew 25 [.bool (negB (g : Int)), .slice pc lc Kc]
  replace S := S.alloc 25 [.bool (negB (g : Int)), .slice pc lc Kc] (w8.heap.size)
  replace n1 := n1.hold H
  replace n2 := n2.hold H
  replace ng := ng.hold H
  replace nc := nc.hold H
  clear H
  clear c0_0 c0_1 c1_0 c1_1 c2_0 c2_1 c2_2
  have c0_0 := S.c 0 0 rfl rfl
  have c0_1 := S.c 0 1 rfl rfl
  have c1_0 := S.c 1 0 rfl rfl
  have c1_1 := S.c 1 1 rfl rfl
  have c2_0 := S.c 2 0 rfl rfl
  have c2_1 := S.c 2 1 rfl rfl
  have c2_2 := S.c 2 2 rfl rfl
  have c4_0 := S.c 4 0 rfl rfl
  have c4_1 := S.c 4 1 rfl rfl
  go_wp2_with fail
  clear c0_0 c0_1 c1_0 c1_1 c2_0 c2_1 c2_2 c4_0 c4_1
  refine (S.call (wdiv_to ⟨_, _, _, by rw [HD.out.1], n1⟩ ⟨_, _, _, rfl, nc⟩ HD.out.2.2.1 HG.out.2.1 z zr HG.out.2.2 HZ.out.1 HZ.out.2.1)).mono ?_
  clear S
  rintro e w9 ⟨⟨_, _, rfl, ⟨pz, lz, Kz, rfl, nz⟩, ⟨pr, lr, Kr, rfl, nr⟩⟩, S, H⟩
  replace n1 := n1.hold H
  replace n2 := n2.hold H
  replace ng := ng.hold H
  replace nc := nc.hold H
  clear H
  have c0_0 := S.c 0 0 rfl rfl
  have c0_1 := S.c 0 1 rfl rfl
  have c1_0 := S.c 1 0 rfl rfl
  have c1_1 := S.c 1 1 rfl rfl
  have c2_0 := S.c 2 0 rfl rfl
  have c2_1 := S.c 2 1 rfl rfl
  have c2_2 := S.c 2 2 rfl rfl
  have c4_0 := S.c 4 0 rfl rfl
  have c4_1 := S.c 4 1 rfl rfl
  have H := S.hnew 25 [.bool (negB z), .slice pz lz Kz]
  replace S := S.alloc 25 [.bool (negB z), .slice pz lz Kz] (w9.heap.size)
  replace n1 := n1.hold H
  replace n2 := n2.hold H
  replace ng := ng.hold H
  replace nc := nc.hold H
  replace nz := nz.hold H
  clear H
  have H := S.hnew 25 [.bool (negB zr), .slice pr lr Kr]
  replace S := S.alloc 25 [.bool (negB zr), .slice pr lr Kr] (w9.heap.size + 1)
  replace n1 := n1.hold H
  replace n2 := n2.hold H
  replace ng := ng.hold H
  replace nc := nc.hold H
  replace nz := nz.hold H
  clear H
  clear c0_0 c0_1 c1_0 c1_1 c2_0 c2_1 c2_2 c4_0 c4_1
  have c0_0 := S.c 0 0 rfl rfl
  have c0_1 := S.c 0 1 rfl rfl
  have c1_0 := S.c 1 0 rfl rfl
  have c1_1 := S.c 1 1 rfl rfl
  have c2_0 := S.c 2 0 rfl rfl
  have c2_1 := S.c 2 1 rfl rfl
  have c2_2 := S.c 2 2 rfl rfl
  have c4_0 := S.c 4 0 rfl rfl
  have c4_1 := S.c 4 1 rfl rfl
  have c5_0 := S.c 5 0 rfl rfl
  have c5_1 := S.c 5 1 rfl rfl
  go_upto_region 8 with fail
  clear c0_0 c0_1 c1_0 c1_1 c2_0 c2_1 c2_2 c4_0 c4_1 c5_0 c5_1
  generalize (.tuple #[.agg #[.bool (negB z), .slice pz lz Kz], .agg #[.bool (negB zr), .slice pr lr Kr], .int .i64 0] : Value) = x1
  generalize (.agg #[.bool (negB z), .slice pz lz Kz] : Value) = x2
  generalize (.agg #[.bool (negB zr), .slice pr lr Kr] : Value) = x3
  generalize (.agg #[.bool b1, .slice p1 l1 K1] : Value) = x4
  generalize ((w9.alloc (.cells #[.bool (negB z), .slice pz lz Kz] 25)).alloc (.cells #[.bool (negB zr), .slice pr lr Kr] 25)) = w10 at S n1 n2 ng nc nz ⊢
  go_cut [11] (fun s11 wx => ∃ g11 py ly Ky, s11 = .pointer (some ⟨g11, 0, none⟩) ∧ St w wx [(w.heap.size, 25, [.bool b1, .slice p1 l1 K1]), (w.heap.size + 1, 25, [.bool b2, .slice p2 l2 K2]), (w.heap.size + 1 + 1, 27, [.bool false, .slice none 0 0, .slice none 0 0]), (w4.heap.size, 31, [.int .i64 0, .int .i64 0]), (w8.heap.size, 25, [.bool (negB (g : Int)), .slice pc lc Kc]), (w9.heap.size, 25, [.bool (negB z), .slice pz lz Kz]), (w9.heap.size + 1, 25, [.bool (negB zr), .slice pr lr Kr]), (g11, 25, [.bool (negB y), .slice py ly Ky])] ∧ IsNat wx (.slice py ly Ky) y.natAbs ∧ Hold w10 wx)
  case first =>
    have HH := Hold.drew w10
    replace n1 := n1.hold HH
    replace n2 := n2.hold HH
    replace ng := ng.hold HH
    replace nc := nc.hold HH
    replace nz := nz.hold HH
    replace S := S.drew
    refine wp_region_held_drew (S := fun W => W.cell? ⟨w.heap.size + 1, 0, none⟩ = some (.bool b2) ∧ W.cell? ⟨w.heap.size + 1, 1, none⟩ = some (.slice p2 l2 K2) ∧ W.cell? ⟨w8.heap.size, 0, none⟩ = some (.bool (negB (g : Int))) ∧ W.cell? ⟨w8.heap.size, 1, none⟩ = some (.slice pc lc Kc)) (by kernel_rfl) ⟨S.c 1 0 rfl rfl, S.c 1 1 rfl rfl, S.c 4 0 rfl rfl, S.c 4 1 rfl rfl⟩ (fun hS => ?_)
    generalize w10.drew = w11 at S n1 n2 ng nc nz HH hS ⊢
    refine wpAnyH_take (i := 0) (v := ?_) ((List.getElem?_toArray ..).trans rfl) (by kernel_rfl) (by kernel_rfl) (by kernel_rfl) (fun _ _ _ h => h) (Or.inl ⟨rfl, fun W hW => ?_⟩) hS ?_
    rotate_left
    · obtain ⟨hW0, hW1, hW2, hW3⟩ := hW; go_simp; try first | rfl | kernel_rfl
    try simp only [Act.put, List.setIfInBounds_toArray, List.set_cons_zero, List.set_cons_succ]
    refine wpAnyH_take (i := 2) (v := ?_) ((List.getElem?_toArray ..).trans rfl) (by kernel_rfl) (by kernel_rfl) (by kernel_rfl) (fun _ _ _ h => h) (Or.inl ⟨rfl, fun W hW => ?_⟩) hS ?_
    rotate_left
    · obtain ⟨hW0, hW1, hW2, hW3⟩ := hW; go_simp; try first | rfl | kernel_rfl
    try simp only [Act.put, List.setIfInBounds_toArray, List.set_cons_zero, List.set_cons_succ]
    refine wpAnyH_ready (rs := [1, 8, 9]) (by kernel_rfl) (by simp) (AllReadyH.cons ((List.getElem?_toArray ..).trans rfl) (fun KK hKK => ?_) (AllReadyH.cons ((List.getElem?_toArray ..).trans rfl) (fun KK hKK => ?_) (AllReadyH.cons ((List.getElem?_toArray ..).trans rfl) (fun KK hKK => ?_) AllReadyH.nil)))
    ·
      go_simp
      clear hS
      refine (S.call (wabs_any ⟨_, _, _, by rw [HD.out.2.1], n2⟩ HD.out.2.2.2.1 ((d.natAbs : Nat) : Int) rfl)).mono ?_
      clear S
      rintro e w12 ⟨⟨_, rfl, pa, la, Ka, rfl, na⟩, S, H⟩
      replace n1 := n1.hold H
      replace n2 := n2.hold H
      replace ng := ng.hold H
      replace nc := nc.hold H
      replace nz := nz.hold H
      replace HH := HH.trans H
      clear H
      go_wp2_with fail
      refine hKK.out _ _ ⟨S.c 1 0 rfl rfl, S.c 1 1 rfl rfl, S.c 4 0 rfl rfl, S.c 4 1 rfl rfl⟩ (fun hS => ?_)
      clear hKK KK
      try simp only [Act.put, List.setIfInBounds_toArray, List.set_cons_zero, List.set_cons_succ]
      refine wpAnyH_ready (rs := [3, 8, 9]) (by kernel_rfl) (by simp) (AllReadyH.cons ((List.getElem?_toArray ..).trans rfl) (fun KK hKK => ?_) (AllReadyH.cons ((List.getElem?_toArray ..).trans rfl) (fun KK hKK => ?_) (AllReadyH.cons ((List.getElem?_toArray ..).trans rfl) (fun KK hKK => ?_) AllReadyH.nil)))
      ·
        go_simp
        clear hS
        refine (S.call (wdiv_to ⟨_, _, _, rfl, na⟩ ⟨_, _, _, rfl, nc⟩ HD.out.2.2.2.1 HG.out.2.1 y yr HG.out.2.2 HZ.out.2.2.1 HZ.out.2.2.2)).mono ?_
        clear S
        rintro e w13 ⟨⟨_, _, rfl, ⟨py, ly, Ky, rfl, ny⟩, ⟨pv, lv, Kv, rfl, nv⟩⟩, S, H⟩
        replace n1 := n1.hold H
        replace n2 := n2.hold H
        replace ng := ng.hold H
        replace nc := nc.hold H
        replace nz := nz.hold H
        replace na := na.hold H
        replace HH := HH.trans H
        clear H
        go_wp2_with fail
        refine hKK.out _ _ ⟨S.c 1 0 rfl rfl, S.c 1 1 rfl rfl, S.c 4 0 rfl rfl, S.c 4 1 rfl rfl⟩ (fun hS => ?_)
        clear hKK KK
        try simp only [Act.put, List.setIfInBounds_toArray, List.set_cons_zero, List.set_cons_succ]
        refine wpAnyH_take (i := 4) (v := ?_) ((List.getElem?_toArray ..).trans rfl) (by kernel_rfl) (by kernel_rfl) (by kernel_rfl) (fun _ _ _ h => h) (Or.inl ⟨rfl, fun W hW => ?_⟩) hS ?_
        rotate_left
        · obtain ⟨hW0, hW1, hW2, hW3⟩ := hW; go_simp; try first | rfl | kernel_rfl
        try simp only [Act.put, List.setIfInBounds_toArray, List.set_cons_zero, List.set_cons_succ]
        refine wpAnyH_take (i := 5) (v := ?_) ((List.getElem?_toArray ..).trans rfl) (by kernel_rfl) (by kernel_rfl) (by kernel_rfl) (fun _ _ _ h => h) (Or.inl ⟨rfl, fun W hW => ?_⟩) hS ?_
        rotate_left
        · obtain ⟨hW0, hW1, hW2, hW3⟩ := hW; go_simp; try first | rfl | kernel_rfl
        try simp only [Act.put, List.setIfInBounds_toArray, List.set_cons_zero, List.set_cons_succ]
        refine wpAnyH_take (i := 6) (v := ?_) ((List.getElem?_toArray ..).trans rfl) (by kernel_rfl) (by kernel_rfl) (by kernel_rfl) (fun _ _ _ h => h) (Or.inl ⟨rfl, fun W hW => ?_⟩) hS ?_
        rotate_left
        · obtain ⟨hW0, hW1, hW2, hW3⟩ := hW; go_simp; try first | rfl | kernel_rfl
        try simp only [Act.put, List.setIfInBounds_toArray, List.set_cons_zero, List.set_cons_succ]
        refine wpAnyH_take (i := 7) (v := ?_) ((List.getElem?_toArray ..).trans rfl) (by kernel_rfl) (by kernel_rfl) (by kernel_rfl) (fun _ _ _ h => h) (Or.inl ⟨rfl, fun W hW => ?_⟩) hS ?_
        rotate_left
        · obtain ⟨hW0, hW1, hW2, hW3⟩ := hW; go_simp; try first | rfl | kernel_rfl
        try simp only [Act.put, List.setIfInBounds_toArray, List.set_cons_zero, List.set_cons_succ]
        refine wpAnyH_ready (rs := [8, 9]) (by kernel_rfl) (by simp) (AllReadyH.cons ((List.getElem?_toArray ..).trans rfl) (fun KK hKK => ?_) (AllReadyH.cons ((List.getElem?_toArray ..).trans rfl) (fun KK hKK => ?_) AllReadyH.nil))
        ·
          go_simp
          clear hS
          have H := S.hnew 25 [.bool false, .slice none 0 0]
          replace S := S.alloc 25 [.bool false, .slice none 0 0] (w13.heap.size)
          replace n1 := n1.hold H
          replace n2 := n2.hold H
          replace ng := ng.hold H
          replace nc := nc.hold H
          replace nz := nz.hold H
          replace na := na.hold H
          replace ny := ny.hold H
          replace HH := HH.trans H
          clear H
          refine hKK.out _ _ ⟨S.c 1 0 rfl rfl, S.c 1 1 rfl rfl, S.c 4 0 rfl rfl, S.c 4 1 rfl rfl⟩ (fun hS => ?_)
          generalize (w13.alloc (.cells #[.bool false, .slice none 0 0] 25)) = w14 at S n1 n2 ng nc nz na ny HH hS ⊢
          clear hKK KK
          try simp only [Act.put, List.setIfInBounds_toArray, List.set_cons_zero, List.set_cons_succ]
          refine wpAnyH_ready (rs := [9]) (by kernel_rfl) (by simp) (AllReadyH.cons ((List.getElem?_toArray ..).trans rfl) (fun KK hKK => ?_) AllReadyH.nil)
          go_simp
          clear hS
          have H := S.hnew 25 [.bool false, .slice none 0 0]
          replace S := S.alloc 25 [.bool false, .slice none 0 0] (w14.heap.size)
          replace n1 := n1.hold H
          replace n2 := n2.hold H
          replace ng := ng.hold H
          replace nc := nc.hold H
          replace nz := nz.hold H
          replace na := na.hold H
          replace ny := ny.hold H
          replace HH := HH.trans H
          clear H
          refine hKK.out _ _ ⟨S.c 1 0 rfl rfl, S.c 1 1 rfl rfl, S.c 4 0 rfl rfl, S.c 4 1 rfl rfl⟩ (fun hS => ?_)
          generalize (w14.alloc (.cells #[.bool false, .slice none 0 0] 25)) = w15 at S n1 n2 ng nc nz na ny HH hS ⊢
          clear hKK KK
          try simp only [Act.put, List.setIfInBounds_toArray, List.set_cons_zero, List.set_cons_succ]
          refine wpAnyH_ready (rs := [10]) (by kernel_rfl) (by simp) (AllReadyH.cons ((List.getElem?_toArray ..).trans rfl) (fun KK hKK => ?_) AllReadyH.nil)
          have c0 := S.c 7 0 rfl rfl
          have f0 := S.f 7 0 rfl
          have c1 := S.c 7 1 rfl rfl
          have f1 := S.f 7 1 rfl
          go_simp
          clear hS c0 f0 c1 f1
          have H := S.hset 7 0 (.bool (negB y)) rfl rfl (by intro q n e; cases e)
          replace S := S.set 7 0 (.bool (negB y)) rfl
          replace n1 := n1.hold H
          replace n2 := n2.hold H
          replace ng := ng.hold H
          replace nc := nc.hold H
          replace nz := nz.hold H
          replace na := na.hold H
          replace ny := ny.hold H
          replace HH := HH.trans H
          clear H
          have H := S.hset 7 1 (.slice py ly Ky) rfl rfl (by intro q n e; cases e)
          replace S := S.set 7 1 (.slice py ly Ky) rfl
          replace n1 := n1.hold H
          replace n2 := n2.hold H
          replace ng := ng.hold H
          replace nc := nc.hold H
          replace nz := nz.hold H
          replace na := na.hold H
          replace ny := ny.hold H
          replace HH := HH.trans H
          clear H
          refine hKK.out _ _ ⟨S.c 1 0 rfl rfl, S.c 1 1 rfl rfl, S.c 4 0 rfl rfl, S.c 4 1 rfl rfl⟩ (fun hS => ?_)
          generalize ((w15.setCell ⟨w13.heap.size, 0, none⟩ (.bool (negB y))).setCell ⟨w13.heap.size, 1, none⟩ (.slice py ly Ky)) = w16 at S n1 n2 ng nc nz na ny HH hS ⊢
          clear hKK KK
          try simp only [Act.put, List.setIfInBounds_toArray, List.set_cons_zero, List.set_cons_succ]
          refine wpAnyH_ready (rs := [11]) (by kernel_rfl) (by simp) (AllReadyH.cons ((List.getElem?_toArray ..).trans rfl) (fun KK hKK => ?_) AllReadyH.nil)
          have c0 := S.c 8 0 rfl rfl
          have f0 := S.f 8 0 rfl
          have c1 := S.c 8 1 rfl rfl
          have f1 := S.f 8 1 rfl
          go_simp
          clear hS c0 f0 c1 f1
          have H := S.hset 8 0 (.bool (negB yr)) rfl rfl (by intro q n e; cases e)
          replace S := S.set 8 0 (.bool (negB yr)) rfl
          replace n1 := n1.hold H
          replace n2 := n2.hold H
          replace ng := ng.hold H
          replace nc := nc.hold H
          replace nz := nz.hold H
          replace na := na.hold H
          replace ny := ny.hold H
          replace HH := HH.trans H
          clear H
          have H := S.hset 8 1 (.slice pv lv Kv) rfl rfl (by intro q n e; cases e)
          replace S := S.set 8 1 (.slice pv lv Kv) rfl
          replace n1 := n1.hold H
          replace n2 := n2.hold H
          replace ng := ng.hold H
          replace nc := nc.hold H
          replace nz := nz.hold H
          replace na := na.hold H
          replace ny := ny.hold H
          replace HH := HH.trans H
          clear H
          refine hKK.out _ _ ⟨S.c 1 0 rfl rfl, S.c 1 1 rfl rfl, S.c 4 0 rfl rfl, S.c 4 1 rfl rfl⟩ (fun hS => ?_)
          generalize ((w16.setCell ⟨w14.heap.size, 0, none⟩ (.bool (negB yr))).setCell ⟨w14.heap.size, 1, none⟩ (.slice pv lv Kv)) = w17 at S n1 n2 ng nc nz na ny HH hS ⊢
          clear hKK KK
          try simp only [Act.put, List.setIfInBounds_toArray, List.set_cons_zero, List.set_cons_succ]
          refine wpAnyH_ready (rs := [12]) (by kernel_rfl) (by simp) (AllReadyH.cons ((List.getElem?_toArray ..).trans rfl) (fun KK hKK => ?_) AllReadyH.nil)
          go_simp
          refine hKK.out _ _ hS (fun hS => ?_)
          clear hKK KK
          try simp only [Act.put, List.setIfInBounds_toArray, List.set_cons_zero, List.set_cons_succ]
          refine wpAnyH_done (by kernel_rfl) ?_ _
          go_wp2_with fail
          go_meet
          case rel => exact ⟨w13.heap.size, py, ly, Ky, rfl, S.sub (.cons_cons _ (.cons_cons _ (.cons_cons _ (.cons_cons _ (.cons_cons _ (.cons_cons _ (.cons_cons _ (.cons_cons _ (.cons _ (.slnil)))))))))), ny, HH⟩
        ·
          go_simp
          clear hS
          have H := S.hnew 25 [.bool false, .slice none 0 0]
          replace S := S.alloc 25 [.bool false, .slice none 0 0] (w13.heap.size)
          replace n1 := n1.hold H
          replace n2 := n2.hold H
          replace ng := ng.hold H
          replace nc := nc.hold H
          replace nz := nz.hold H
          replace na := na.hold H
          replace ny := ny.hold H
          replace HH := HH.trans H
          clear H
          refine hKK.out _ _ ⟨S.c 1 0 rfl rfl, S.c 1 1 rfl rfl, S.c 4 0 rfl rfl, S.c 4 1 rfl rfl⟩ (fun hS => ?_)
          generalize (w13.alloc (.cells #[.bool false, .slice none 0 0] 25)) = w18 at S n1 n2 ng nc nz na ny HH hS ⊢
          clear hKK KK
          try simp only [Act.put, List.setIfInBounds_toArray, List.set_cons_zero, List.set_cons_succ]
          refine wpAnyH_ready (rs := [8]) (by kernel_rfl) (by simp) (AllReadyH.cons ((List.getElem?_toArray ..).trans rfl) (fun KK hKK => ?_) AllReadyH.nil)
          go_simp
          clear hS
          have H := S.hnew 25 [.bool false, .slice none 0 0]
          replace S := S.alloc 25 [.bool false, .slice none 0 0] (w18.heap.size)
          replace n1 := n1.hold H
          replace n2 := n2.hold H
          replace ng := ng.hold H
          replace nc := nc.hold H
          replace nz := nz.hold H
          replace na := na.hold H
          replace ny := ny.hold H
          replace HH := HH.trans H
          clear H
          refine hKK.out _ _ ⟨S.c 1 0 rfl rfl, S.c 1 1 rfl rfl, S.c 4 0 rfl rfl, S.c 4 1 rfl rfl⟩ (fun hS => ?_)
          generalize (w18.alloc (.cells #[.bool false, .slice none 0 0] 25)) = w19 at S n1 n2 ng nc nz na ny HH hS ⊢
          clear hKK KK
          try simp only [Act.put, List.setIfInBounds_toArray, List.set_cons_zero, List.set_cons_succ]
          refine wpAnyH_ready (rs := [10]) (by kernel_rfl) (by simp) (AllReadyH.cons ((List.getElem?_toArray ..).trans rfl) (fun KK hKK => ?_) AllReadyH.nil)
          have c0 := S.c 8 0 rfl rfl
          have f0 := S.f 8 0 rfl
          have c1 := S.c 8 1 rfl rfl
          have f1 := S.f 8 1 rfl
          go_simp
          clear hS c0 f0 c1 f1
          have H := S.hset 8 0 (.bool (negB y)) rfl rfl (by intro q n e; cases e)
          replace S := S.set 8 0 (.bool (negB y)) rfl
          replace n1 := n1.hold H
          replace n2 := n2.hold H
          replace ng := ng.hold H
          replace nc := nc.hold H
          replace nz := nz.hold H
          replace na := na.hold H
          replace ny := ny.hold H
          replace HH := HH.trans H
          clear H
          have H := S.hset 8 1 (.slice py ly Ky) rfl rfl (by intro q n e; cases e)
          replace S := S.set 8 1 (.slice py ly Ky) rfl
          replace n1 := n1.hold H
          replace n2 := n2.hold H
          replace ng := ng.hold H
          replace nc := nc.hold H
          replace nz := nz.hold H
          replace na := na.hold H
          replace ny := ny.hold H
          replace HH := HH.trans H
          clear H
          refine hKK.out _ _ ⟨S.c 1 0 rfl rfl, S.c 1 1 rfl rfl, S.c 4 0 rfl rfl, S.c 4 1 rfl rfl⟩ (fun hS => ?_)
          generalize ((w19.setCell ⟨w18.heap.size, 0, none⟩ (.bool (negB y))).setCell ⟨w18.heap.size, 1, none⟩ (.slice py ly Ky)) = w20 at S n1 n2 ng nc nz na ny HH hS ⊢
          clear hKK KK
          try simp only [Act.put, List.setIfInBounds_toArray, List.set_cons_zero, List.set_cons_succ]
          refine wpAnyH_ready (rs := [11]) (by kernel_rfl) (by simp) (AllReadyH.cons ((List.getElem?_toArray ..).trans rfl) (fun KK hKK => ?_) AllReadyH.nil)
          have c0 := S.c 7 0 rfl rfl
          have f0 := S.f 7 0 rfl
          have c1 := S.c 7 1 rfl rfl
          have f1 := S.f 7 1 rfl
          go_simp
          clear hS c0 f0 c1 f1
          have H := S.hset 7 0 (.bool (negB yr)) rfl rfl (by intro q n e; cases e)
          replace S := S.set 7 0 (.bool (negB yr)) rfl
          replace n1 := n1.hold H
          replace n2 := n2.hold H
          replace ng := ng.hold H
          replace nc := nc.hold H
          replace nz := nz.hold H
          replace na := na.hold H
          replace ny := ny.hold H
          replace HH := HH.trans H
          clear H
          have H := S.hset 7 1 (.slice pv lv Kv) rfl rfl (by intro q n e; cases e)
          replace S := S.set 7 1 (.slice pv lv Kv) rfl
          replace n1 := n1.hold H
          replace n2 := n2.hold H
          replace ng := ng.hold H
          replace nc := nc.hold H
          replace nz := nz.hold H
          replace na := na.hold H
          replace ny := ny.hold H
          replace HH := HH.trans H
          clear H
          refine hKK.out _ _ ⟨S.c 1 0 rfl rfl, S.c 1 1 rfl rfl, S.c 4 0 rfl rfl, S.c 4 1 rfl rfl⟩ (fun hS => ?_)
          generalize ((w20.setCell ⟨w13.heap.size, 0, none⟩ (.bool (negB yr))).setCell ⟨w13.heap.size, 1, none⟩ (.slice pv lv Kv)) = w21 at S n1 n2 ng nc nz na ny HH hS ⊢
          clear hKK KK
          try simp only [Act.put, List.setIfInBounds_toArray, List.set_cons_zero, List.set_cons_succ]
          refine wpAnyH_ready (rs := [12]) (by kernel_rfl) (by simp) (AllReadyH.cons ((List.getElem?_toArray ..).trans rfl) (fun KK hKK => ?_) AllReadyH.nil)
          go_simp
          refine hKK.out _ _ hS (fun hS => ?_)
          clear hKK KK
          try simp only [Act.put, List.setIfInBounds_toArray, List.set_cons_zero, List.set_cons_succ]
          refine wpAnyH_done (by kernel_rfl) ?_ _
          go_wp2_with fail
          go_meet
          case rel => exact ⟨w18.heap.size, py, ly, Ky, rfl, S.sub (.cons_cons _ (.cons_cons _ (.cons_cons _ (.cons_cons _ (.cons_cons _ (.cons_cons _ (.cons_cons _ (.cons _ (.cons_cons _ (.slnil)))))))))), ny, HH⟩
      ·
        go_simp
        clear hS
        have H := S.hnew 25 [.bool false, .slice none 0 0]
        replace S := S.alloc 25 [.bool false, .slice none 0 0] (w12.heap.size)
        replace n1 := n1.hold H
        replace n2 := n2.hold H
        replace ng := ng.hold H
        replace nc := nc.hold H
        replace nz := nz.hold H
        replace na := na.hold H
        replace HH := HH.trans H
        clear H
        refine hKK.out _ _ ⟨S.c 1 0 rfl rfl, S.c 1 1 rfl rfl, S.c 4 0 rfl rfl, S.c 4 1 rfl rfl⟩ (fun hS => ?_)
        generalize (w12.alloc (.cells #[.bool false, .slice none 0 0] 25)) = w22 at S n1 n2 ng nc nz na HH hS ⊢
        clear hKK KK
        try simp only [Act.put, List.setIfInBounds_toArray, List.set_cons_zero, List.set_cons_succ]
        refine wpAnyH_ready (rs := [3, 9]) (by kernel_rfl) (by simp) (AllReadyH.cons ((List.getElem?_toArray ..).trans rfl) (fun KK hKK => ?_) (AllReadyH.cons ((List.getElem?_toArray ..).trans rfl) (fun KK hKK => ?_) AllReadyH.nil))
        ·
          go_simp
          clear hS
          refine (S.call (wdiv_to ⟨_, _, _, rfl, na⟩ ⟨_, _, _, rfl, nc⟩ HD.out.2.2.2.1 HG.out.2.1 y yr HG.out.2.2 HZ.out.2.2.1 HZ.out.2.2.2)).mono ?_
          clear S
          rintro e w23 ⟨⟨_, _, rfl, ⟨py, ly, Ky, rfl, ny⟩, ⟨pv, lv, Kv, rfl, nv⟩⟩, S, H⟩
          replace n1 := n1.hold H
          replace n2 := n2.hold H
          replace ng := ng.hold H
          replace nc := nc.hold H
          replace nz := nz.hold H
          replace na := na.hold H
          replace HH := HH.trans H
          clear H
          go_wp2_with fail
          refine hKK.out _ _ ⟨S.c 1 0 rfl rfl, S.c 1 1 rfl rfl, S.c 4 0 rfl rfl, S.c 4 1 rfl rfl⟩ (fun hS => ?_)
          clear hKK KK
          try simp only [Act.put, List.setIfInBounds_toArray, List.set_cons_zero, List.set_cons_succ]
          refine wpAnyH_take (i := 4) (v := ?_) ((List.getElem?_toArray ..).trans rfl) (by kernel_rfl) (by kernel_rfl) (by kernel_rfl) (fun _ _ _ h => h) (Or.inl ⟨rfl, fun W hW => ?_⟩) hS ?_
          rotate_left
          · obtain ⟨hW0, hW1, hW2, hW3⟩ := hW; go_simp; try first | rfl | kernel_rfl
          try simp only [Act.put, List.setIfInBounds_toArray, List.set_cons_zero, List.set_cons_succ]
          refine wpAnyH_take (i := 5) (v := ?_) ((List.getElem?_toArray ..).trans rfl) (by kernel_rfl) (by kernel_rfl) (by kernel_rfl) (fun _ _ _ h => h) (Or.inl ⟨rfl, fun W hW => ?_⟩) hS ?_
          rotate_left
          · obtain ⟨hW0, hW1, hW2, hW3⟩ := hW; go_simp; try first | rfl | kernel_rfl
          try simp only [Act.put, List.setIfInBounds_toArray, List.set_cons_zero, List.set_cons_succ]
          refine wpAnyH_take (i := 6) (v := ?_) ((List.getElem?_toArray ..).trans rfl) (by kernel_rfl) (by kernel_rfl) (by kernel_rfl) (fun _ _ _ h => h) (Or.inl ⟨rfl, fun W hW => ?_⟩) hS ?_
          rotate_left
          · obtain ⟨hW0, hW1, hW2, hW3⟩ := hW; go_simp; try first | rfl | kernel_rfl
          try simp only [Act.put, List.setIfInBounds_toArray, List.set_cons_zero, List.set_cons_succ]
          refine wpAnyH_take (i := 7) (v := ?_) ((List.getElem?_toArray ..).trans rfl) (by kernel_rfl) (by kernel_rfl) (by kernel_rfl) (fun _ _ _ h => h) (Or.inl ⟨rfl, fun W hW => ?_⟩) hS ?_
          rotate_left
          · obtain ⟨hW0, hW1, hW2, hW3⟩ := hW; go_simp; try first | rfl | kernel_rfl
          try simp only [Act.put, List.setIfInBounds_toArray, List.set_cons_zero, List.set_cons_succ]
          refine wpAnyH_ready (rs := [9]) (by kernel_rfl) (by simp) (AllReadyH.cons ((List.getElem?_toArray ..).trans rfl) (fun KK hKK => ?_) AllReadyH.nil)
          go_simp
          clear hS
          have H := S.hnew 25 [.bool false, .slice none 0 0]
          replace S := S.alloc 25 [.bool false, .slice none 0 0] (w23.heap.size)
          replace n1 := n1.hold H
          replace n2 := n2.hold H
          replace ng := ng.hold H
          replace nc := nc.hold H
          replace nz := nz.hold H
          replace na := na.hold H
          replace ny := ny.hold H
          replace HH := HH.trans H
          clear H
          refine hKK.out _ _ ⟨S.c 1 0 rfl rfl, S.c 1 1 rfl rfl, S.c 4 0 rfl rfl, S.c 4 1 rfl rfl⟩ (fun hS => ?_)
          generalize (w23.alloc (.cells #[.bool false, .slice none 0 0] 25)) = w24 at S n1 n2 ng nc nz na ny HH hS ⊢
          clear hKK KK
          try simp only [Act.put, List.setIfInBounds_toArray, List.set_cons_zero, List.set_cons_succ]
          refine wpAnyH_ready (rs := [10]) (by kernel_rfl) (by simp) (AllReadyH.cons ((List.getElem?_toArray ..).trans rfl) (fun KK hKK => ?_) AllReadyH.nil)
          have c0 := S.c 7 0 rfl rfl
          have f0 := S.f 7 0 rfl
          have c1 := S.c 7 1 rfl rfl
          have f1 := S.f 7 1 rfl
          go_simp
          clear hS c0 f0 c1 f1
          have H := S.hset 7 0 (.bool (negB y)) rfl rfl (by intro q n e; cases e)
          replace S := S.set 7 0 (.bool (negB y)) rfl
          replace n1 := n1.hold H
          replace n2 := n2.hold H
          replace ng := ng.hold H
          replace nc := nc.hold H
          replace nz := nz.hold H
          replace na := na.hold H
          replace ny := ny.hold H
          replace HH := HH.trans H
          clear H
          have H := S.hset 7 1 (.slice py ly Ky) rfl rfl (by intro q n e; cases e)
          replace S := S.set 7 1 (.slice py ly Ky) rfl
          replace n1 := n1.hold H
          replace n2 := n2.hold H
          replace ng := ng.hold H
          replace nc := nc.hold H
          replace nz := nz.hold H
          replace na := na.hold H
          replace ny := ny.hold H
          replace HH := HH.trans H
          clear H
          refine hKK.out _ _ ⟨S.c 1 0 rfl rfl, S.c 1 1 rfl rfl, S.c 4 0 rfl rfl, S.c 4 1 rfl rfl⟩ (fun hS => ?_)
          generalize ((w24.setCell ⟨w12.heap.size, 0, none⟩ (.bool (negB y))).setCell ⟨w12.heap.size, 1, none⟩ (.slice py ly Ky)) = w25 at S n1 n2 ng nc nz na ny HH hS ⊢
          clear hKK KK
          try simp only [Act.put, List.setIfInBounds_toArray, List.set_cons_zero, List.set_cons_succ]
          refine wpAnyH_ready (rs := [11]) (by kernel_rfl) (by simp) (AllReadyH.cons ((List.getElem?_toArray ..).trans rfl) (fun KK hKK => ?_) AllReadyH.nil)
          have c0 := S.c 8 0 rfl rfl
          have f0 := S.f 8 0 rfl
          have c1 := S.c 8 1 rfl rfl
          have f1 := S.f 8 1 rfl
          go_simp
          clear hS c0 f0 c1 f1
          have H := S.hset 8 0 (.bool (negB yr)) rfl rfl (by intro q n e; cases e)
          replace S := S.set 8 0 (.bool (negB yr)) rfl
          replace n1 := n1.hold H
          replace n2 := n2.hold H
          replace ng := ng.hold H
          replace nc := nc.hold H
          replace nz := nz.hold H
          replace na := na.hold H
          replace ny := ny.hold H
          replace HH := HH.trans H
          clear H
          have H := S.hset 8 1 (.slice pv lv Kv) rfl rfl (by intro q n e; cases e)
          replace S := S.set 8 1 (.slice pv lv Kv) rfl
          replace n1 := n1.hold H
          replace n2 := n2.hold H
          replace ng := ng.hold H
          replace nc := nc.hold H
          replace nz := nz.hold H
          replace na := na.hold H
          replace ny := ny.hold H
          replace HH := HH.trans H
          clear H
          refine hKK.out _ _ ⟨S.c 1 0 rfl rfl, S.c 1 1 rfl rfl, S.c 4 0 rfl rfl, S.c 4 1 rfl rfl⟩ (fun hS => ?_)
          generalize ((w25.setCell ⟨w23.heap.size, 0, none⟩ (.bool (negB yr))).setCell ⟨w23.heap.size, 1, none⟩ (.slice pv lv Kv)) = w26 at S n1 n2 ng nc nz na ny HH hS ⊢
          clear hKK KK
          try simp only [Act.put, List.setIfInBounds_toArray, List.set_cons_zero, List.set_cons_succ]
          refine wpAnyH_ready (rs := [12]) (by kernel_rfl) (by simp) (AllReadyH.cons ((List.getElem?_toArray ..).trans rfl) (fun KK hKK => ?_) AllReadyH.nil)
          go_simp
          refine hKK.out _ _ hS (fun hS => ?_)
          clear hKK KK
          try simp only [Act.put, List.setIfInBounds_toArray, List.set_cons_zero, List.set_cons_succ]
          refine wpAnyH_done (by kernel_rfl) ?_ _
          go_wp2_with fail
          go_meet
          case rel => exact ⟨w12.heap.size, py, ly, Ky, rfl, S.sub (.cons_cons _ (.cons_cons _ (.cons_cons _ (.cons_cons _ (.cons_cons _ (.cons_cons _ (.cons_cons _ (.cons_cons _ (.cons _ (.slnil)))))))))), ny, HH⟩
        ·
          go_simp
          clear hS
          have H := S.hnew 25 [.bool false, .slice none 0 0]
          replace S := S.alloc 25 [.bool false, .slice none 0 0] (w22.heap.size)
          replace n1 := n1.hold H
          replace n2 := n2.hold H
          replace ng := ng.hold H
          replace nc := nc.hold H
          replace nz := nz.hold H
          replace na := na.hold H
          replace HH := HH.trans H
          clear H
          refine hKK.out _ _ ⟨S.c 1 0 rfl rfl, S.c 1 1 rfl rfl, S.c 4 0 rfl rfl, S.c 4 1 rfl rfl⟩ (fun hS => ?_)
          generalize (w22.alloc (.cells #[.bool false, .slice none 0 0] 25)) = w27 at S n1 n2 ng nc nz na HH hS ⊢
          clear hKK KK
          try simp only [Act.put, List.setIfInBounds_toArray, List.set_cons_zero, List.set_cons_succ]
          refine wpAnyH_ready (rs := [3]) (by kernel_rfl) (by simp) (AllReadyH.cons ((List.getElem?_toArray ..).trans rfl) (fun KK hKK => ?_) AllReadyH.nil)
          go_simp
          clear hS
          refine (S.call (wdiv_to ⟨_, _, _, rfl, na⟩ ⟨_, _, _, rfl, nc⟩ HD.out.2.2.2.1 HG.out.2.1 y yr HG.out.2.2 HZ.out.2.2.1 HZ.out.2.2.2)).mono ?_
          clear S
          rintro e w28 ⟨⟨_, _, rfl, ⟨py, ly, Ky, rfl, ny⟩, ⟨pv, lv, Kv, rfl, nv⟩⟩, S, H⟩
          replace n1 := n1.hold H
          replace n2 := n2.hold H
          replace ng := ng.hold H
          replace nc := nc.hold H
          replace nz := nz.hold H
          replace na := na.hold H
          replace HH := HH.trans H
          clear H
          go_wp2_with fail
          refine hKK.out _ _ ⟨S.c 1 0 rfl rfl, S.c 1 1 rfl rfl, S.c 4 0 rfl rfl, S.c 4 1 rfl rfl⟩ (fun hS => ?_)
          clear hKK KK
          try simp only [Act.put, List.setIfInBounds_toArray, List.set_cons_zero, List.set_cons_succ]
          refine wpAnyH_take (i := 4) (v := ?_) ((List.getElem?_toArray ..).trans rfl) (by kernel_rfl) (by kernel_rfl) (by kernel_rfl) (fun _ _ _ h => h) (Or.inl ⟨rfl, fun W hW => ?_⟩) hS ?_
          rotate_left
          · obtain ⟨hW0, hW1, hW2, hW3⟩ := hW; go_simp; try first | rfl | kernel_rfl
          try simp only [Act.put, List.setIfInBounds_toArray, List.set_cons_zero, List.set_cons_succ]
          refine wpAnyH_take (i := 5) (v := ?_) ((List.getElem?_toArray ..).trans rfl) (by kernel_rfl) (by kernel_rfl) (by kernel_rfl) (fun _ _ _ h => h) (Or.inl ⟨rfl, fun W hW => ?_⟩) hS ?_
          rotate_left
          · obtain ⟨hW0, hW1, hW2, hW3⟩ := hW; go_simp; try first | rfl | kernel_rfl
          try simp only [Act.put, List.setIfInBounds_toArray, List.set_cons_zero, List.set_cons_succ]
          refine wpAnyH_take (i := 6) (v := ?_) ((List.getElem?_toArray ..).trans rfl) (by kernel_rfl) (by kernel_rfl) (by kernel_rfl) (fun _ _ _ h => h) (Or.inl ⟨rfl, fun W hW => ?_⟩) hS ?_
          rotate_left
          · obtain ⟨hW0, hW1, hW2, hW3⟩ := hW; go_simp; try first | rfl | kernel_rfl
          try simp only [Act.put, List.setIfInBounds_toArray, List.set_cons_zero, List.set_cons_succ]
          refine wpAnyH_take (i := 7) (v := ?_) ((List.getElem?_toArray ..).trans rfl) (by kernel_rfl) (by kernel_rfl) (by kernel_rfl) (fun _ _ _ h => h) (Or.inl ⟨rfl, fun W hW => ?_⟩) hS ?_
          rotate_left
          · obtain ⟨hW0, hW1, hW2, hW3⟩ := hW; go_simp; try first | rfl | kernel_rfl
          try simp only [Act.put, List.setIfInBounds_toArray, List.set_cons_zero, List.set_cons_succ]
          refine wpAnyH_ready (rs := [10]) (by kernel_rfl) (by simp) (AllReadyH.cons ((List.getElem?_toArray ..).trans rfl) (fun KK hKK => ?_) AllReadyH.nil)
          have c0 := S.c 7 0 rfl rfl
          have f0 := S.f 7 0 rfl
          have c1 := S.c 7 1 rfl rfl
          have f1 := S.f 7 1 rfl
          go_simp
          clear hS c0 f0 c1 f1
          have H := S.hset 7 0 (.bool (negB y)) rfl rfl (by intro q n e; cases e)
          replace S := S.set 7 0 (.bool (negB y)) rfl
          replace n1 := n1.hold H
          replace n2 := n2.hold H
          replace ng := ng.hold H
          replace nc := nc.hold H
          replace nz := nz.hold H
          replace na := na.hold H
          replace ny := ny.hold H
          replace HH := HH.trans H
          clear H
          have H := S.hset 7 1 (.slice py ly Ky) rfl rfl (by intro q n e; cases e)
          replace S := S.set 7 1 (.slice py ly Ky) rfl
          replace n1 := n1.hold H
          replace n2 := n2.hold H
          replace ng := ng.hold H
          replace nc := nc.hold H
          replace nz := nz.hold H
          replace na := na.hold H
          replace ny := ny.hold H
          replace HH := HH.trans H
          clear H
          refine hKK.out _ _ ⟨S.c 1 0 rfl rfl, S.c 1 1 rfl rfl, S.c 4 0 rfl rfl, S.c 4 1 rfl rfl⟩ (fun hS => ?_)
          generalize ((w28.setCell ⟨w12.heap.size, 0, none⟩ (.bool (negB y))).setCell ⟨w12.heap.size, 1, none⟩ (.slice py ly Ky)) = w29 at S n1 n2 ng nc nz na ny HH hS ⊢
          clear hKK KK
          try simp only [Act.put, List.setIfInBounds_toArray, List.set_cons_zero, List.set_cons_succ]
          refine wpAnyH_ready (rs := [11]) (by kernel_rfl) (by simp) (AllReadyH.cons ((List.getElem?_toArray ..).trans rfl) (fun KK hKK => ?_) AllReadyH.nil)
          have c0 := S.c 8 0 rfl rfl
          have f0 := S.f 8 0 rfl
          have c1 := S.c 8 1 rfl rfl
          have f1 := S.f 8 1 rfl
          go_simp
          clear hS c0 f0 c1 f1
          have H := S.hset 8 0 (.bool (negB yr)) rfl rfl (by intro q n e; cases e)
          replace S := S.set 8 0 (.bool (negB yr)) rfl
          replace n1 := n1.hold H
          replace n2 := n2.hold H
          replace ng := ng.hold H
          replace nc := nc.hold H
          replace nz := nz.hold H
          replace na := na.hold H
          replace ny := ny.hold H
          replace HH := HH.trans H
          clear H
          have H := S.hset 8 1 (.slice pv lv Kv) rfl rfl (by intro q n e; cases e)
          replace S := S.set 8 1 (.slice pv lv Kv) rfl
          replace n1 := n1.hold H
          replace n2 := n2.hold H
          replace ng := ng.hold H
          replace nc := nc.hold H
          replace nz := nz.hold H
          replace na := na.hold H
          replace ny := ny.hold H
          replace HH := HH.trans H
          clear H
          refine hKK.out _ _ ⟨S.c 1 0 rfl rfl, S.c 1 1 rfl rfl, S.c 4 0 rfl rfl, S.c 4 1 rfl rfl⟩ (fun hS => ?_)
          generalize ((w29.setCell ⟨w22.heap.size, 0, none⟩ (.bool (negB yr))).setCell ⟨w22.heap.size, 1, none⟩ (.slice pv lv Kv)) = w30 at S n1 n2 ng nc nz na ny HH hS ⊢
          clear hKK KK
          try simp only [Act.put, List.setIfInBounds_toArray, List.set_cons_zero, List.set_cons_succ]
          refine wpAnyH_ready (rs := [12]) (by kernel_rfl) (by simp) (AllReadyH.cons ((List.getElem?_toArray ..).trans rfl) (fun KK hKK => ?_) AllReadyH.nil)
          go_simp
          refine hKK.out _ _ hS (fun hS => ?_)
          clear hKK KK
          try simp only [Act.put, List.setIfInBounds_toArray, List.set_cons_zero, List.set_cons_succ]
          refine wpAnyH_done (by kernel_rfl) ?_ _
          go_wp2_with fail
          go_meet
          case rel => exact ⟨w12.heap.size, py, ly, Ky, rfl, S.sub (.cons_cons _ (.cons_cons _ (.cons_cons _ (.cons_cons _ (.cons_cons _ (.cons_cons _ (.cons_cons _ (.cons_cons _ (.cons _ (.slnil)))))))))), ny, HH⟩
      ·
        go_simp
        clear hS
        have H := S.hnew 25 [.bool false, .slice none 0 0]
        replace S := S.alloc 25 [.bool false, .slice none 0 0] (w12.heap.size)
        replace n1 := n1.hold H
        replace n2 := n2.hold H
        replace ng := ng.hold H
        replace nc := nc.hold H
        replace nz := nz.hold H
        replace na := na.hold H
        replace HH := HH.trans H
        clear H
        refine hKK.out _ _ ⟨S.c 1 0 rfl rfl, S.c 1 1 rfl rfl, S.c 4 0 rfl rfl, S.c 4 1 rfl rfl⟩ (fun hS => ?_)
        generalize (w12.alloc (.cells #[.bool false, .slice none 0 0] 25)) = w31 at S n1 n2 ng nc nz na HH hS ⊢
        clear hKK KK
        try simp only [Act.put, List.setIfInBounds_toArray, List.set_cons_zero, List.set_cons_succ]
        refine wpAnyH_ready (rs := [3, 8]) (by kernel_rfl) (by simp) (AllReadyH.cons ((List.getElem?_toArray ..).trans rfl) (fun KK hKK => ?_) (AllReadyH.cons ((List.getElem?_toArray ..).trans rfl) (fun KK hKK => ?_) AllReadyH.nil))
        ·
          go_simp
          clear hS
          refine (S.call (wdiv_to ⟨_, _, _, rfl, na⟩ ⟨_, _, _, rfl, nc⟩ HD.out.2.2.2.1 HG.out.2.1 y yr HG.out.2.2 HZ.out.2.2.1 HZ.out.2.2.2)).mono ?_
          clear S
          rintro e w32 ⟨⟨_, _, rfl, ⟨py, ly, Ky, rfl, ny⟩, ⟨pv, lv, Kv, rfl, nv⟩⟩, S, H⟩
          replace n1 := n1.hold H
          replace n2 := n2.hold H
          replace ng := ng.hold H
          replace nc := nc.hold H
          replace nz := nz.hold H
          replace na := na.hold H
          replace HH := HH.trans H
          clear H
          go_wp2_with fail
          refine hKK.out _ _ ⟨S.c 1 0 rfl rfl, S.c 1 1 rfl rfl, S.c 4 0 rfl rfl, S.c 4 1 rfl rfl⟩ (fun hS => ?_)
          clear hKK KK
          try simp only [Act.put, List.setIfInBounds_toArray, List.set_cons_zero, List.set_cons_succ]
          refine wpAnyH_take (i := 4) (v := ?_) ((List.getElem?_toArray ..).trans rfl) (by kernel_rfl) (by kernel_rfl) (by kernel_rfl) (fun _ _ _ h => h) (Or.inl ⟨rfl, fun W hW => ?_⟩) hS ?_
          rotate_left
          · obtain ⟨hW0, hW1, hW2, hW3⟩ := hW; go_simp; try first | rfl | kernel_rfl
          try simp only [Act.put, List.setIfInBounds_toArray, List.set_cons_zero, List.set_cons_succ]
          refine wpAnyH_take (i := 5) (v := ?_) ((List.getElem?_toArray ..).trans rfl) (by kernel_rfl) (by kernel_rfl) (by kernel_rfl) (fun _ _ _ h => h) (Or.inl ⟨rfl, fun W hW => ?_⟩) hS ?_
          rotate_left
          · obtain ⟨hW0, hW1, hW2, hW3⟩ := hW; go_simp; try first | rfl | kernel_rfl
          try simp only [Act.put, List.setIfInBounds_toArray, List.set_cons_zero, List.set_cons_succ]
          refine wpAnyH_take (i := 6) (v := ?_) ((List.getElem?_toArray ..).trans rfl) (by kernel_rfl) (by kernel_rfl) (by kernel_rfl) (fun _ _ _ h => h) (Or.inl ⟨rfl, fun W hW => ?_⟩) hS ?_
          rotate_left
          · obtain ⟨hW0, hW1, hW2, hW3⟩ := hW; go_simp; try first | rfl | kernel_rfl
          try simp only [Act.put, List.setIfInBounds_toArray, List.set_cons_zero, List.set_cons_succ]
          refine wpAnyH_take (i := 7) (v := ?_) ((List.getElem?_toArray ..).trans rfl) (by kernel_rfl) (by kernel_rfl) (by kernel_rfl) (fun _ _ _ h => h) (Or.inl ⟨rfl, fun W hW => ?_⟩) hS ?_
          rotate_left
          · obtain ⟨hW0, hW1, hW2, hW3⟩ := hW; go_simp; try first | rfl | kernel_rfl
          try simp only [Act.put, List.setIfInBounds_toArray, List.set_cons_zero, List.set_cons_succ]
          refine wpAnyH_ready (rs := [8]) (by kernel_rfl) (by simp) (AllReadyH.cons ((List.getElem?_toArray ..).trans rfl) (fun KK hKK => ?_) AllReadyH.nil)
          go_simp
          clear hS
          have H := S.hnew 25 [.bool false, .slice none 0 0]
          replace S := S.alloc 25 [.bool false, .slice none 0 0] (w32.heap.size)
          replace n1 := n1.hold H
          replace n2 := n2.hold H
          replace ng := ng.hold H
          replace nc := nc.hold H
          replace nz := nz.hold H
          replace na := na.hold H
          replace ny := ny.hold H
          replace HH := HH.trans H
          clear H
          refine hKK.out _ _ ⟨S.c 1 0 rfl rfl, S.c 1 1 rfl rfl, S.c 4 0 rfl rfl, S.c 4 1 rfl rfl⟩ (fun hS => ?_)
          generalize (w32.alloc (.cells #[.bool false, .slice none 0 0] 25)) = w33 at S n1 n2 ng nc nz na ny HH hS ⊢
          clear hKK KK
          try simp only [Act.put, List.setIfInBounds_toArray, List.set_cons_zero, List.set_cons_succ]
          refine wpAnyH_ready (rs := [10]) (by kernel_rfl) (by simp) (AllReadyH.cons ((List.getElem?_toArray ..).trans rfl) (fun KK hKK => ?_) AllReadyH.nil)
          have c0 := S.c 8 0 rfl rfl
          have f0 := S.f 8 0 rfl
          have c1 := S.c 8 1 rfl rfl
          have f1 := S.f 8 1 rfl
          go_simp
          clear hS c0 f0 c1 f1
          have H := S.hset 8 0 (.bool (negB y)) rfl rfl (by intro q n e; cases e)
          replace S := S.set 8 0 (.bool (negB y)) rfl
          replace n1 := n1.hold H
          replace n2 := n2.hold H
          replace ng := ng.hold H
          replace nc := nc.hold H
          replace nz := nz.hold H
          replace na := na.hold H
          replace ny := ny.hold H
          replace HH := HH.trans H
          clear H
          have H := S.hset 8 1 (.slice py ly Ky) rfl rfl (by intro q n e; cases e)
          replace S := S.set 8 1 (.slice py ly Ky) rfl
          replace n1 := n1.hold H
          replace n2 := n2.hold H
          replace ng := ng.hold H
          replace nc := nc.hold H
          replace nz := nz.hold H
          replace na := na.hold H
          replace ny := ny.hold H
          replace HH := HH.trans H
          clear H
          refine hKK.out _ _ ⟨S.c 1 0 rfl rfl, S.c 1 1 rfl rfl, S.c 4 0 rfl rfl, S.c 4 1 rfl rfl⟩ (fun hS => ?_)
          generalize ((w33.setCell ⟨w32.heap.size, 0, none⟩ (.bool (negB y))).setCell ⟨w32.heap.size, 1, none⟩ (.slice py ly Ky)) = w34 at S n1 n2 ng nc nz na ny HH hS ⊢
          clear hKK KK
          try simp only [Act.put, List.setIfInBounds_toArray, List.set_cons_zero, List.set_cons_succ]
          refine wpAnyH_ready (rs := [11]) (by kernel_rfl) (by simp) (AllReadyH.cons ((List.getElem?_toArray ..).trans rfl) (fun KK hKK => ?_) AllReadyH.nil)
          have c0 := S.c 7 0 rfl rfl
          have f0 := S.f 7 0 rfl
          have c1 := S.c 7 1 rfl rfl
          have f1 := S.f 7 1 rfl
          go_simp
          clear hS c0 f0 c1 f1
          have H := S.hset 7 0 (.bool (negB yr)) rfl rfl (by intro q n e; cases e)
          replace S := S.set 7 0 (.bool (negB yr)) rfl
          replace n1 := n1.hold H
          replace n2 := n2.hold H
          replace ng := ng.hold H
          replace nc := nc.hold H
          replace nz := nz.hold H
          replace na := na.hold H
          replace ny := ny.hold H
          replace HH := HH.trans H
          clear H
          have H := S.hset 7 1 (.slice pv lv Kv) rfl rfl (by intro q n e; cases e)
          replace S := S.set 7 1 (.slice pv lv Kv) rfl
          replace n1 := n1.hold H
          replace n2 := n2.hold H
          replace ng := ng.hold H
          replace nc := nc.hold H
          replace nz := nz.hold H
          replace na := na.hold H
          replace ny := ny.hold H
          replace HH := HH.trans H
          clear H
          refine hKK.out _ _ ⟨S.c 1 0 rfl rfl, S.c 1 1 rfl rfl, S.c 4 0 rfl rfl, S.c 4 1 rfl rfl⟩ (fun hS => ?_)
          generalize ((w34.setCell ⟨w12.heap.size, 0, none⟩ (.bool (negB yr))).setCell ⟨w12.heap.size, 1, none⟩ (.slice pv lv Kv)) = w35 at S n1 n2 ng nc nz na ny HH hS ⊢
          clear hKK KK
          try simp only [Act.put, List.setIfInBounds_toArray, List.set_cons_zero, List.set_cons_succ]
          refine wpAnyH_ready (rs := [12]) (by kernel_rfl) (by simp) (AllReadyH.cons ((List.getElem?_toArray ..).trans rfl) (fun KK hKK => ?_) AllReadyH.nil)
          go_simp
          refine hKK.out _ _ hS (fun hS => ?_)
          clear hKK KK
          try simp only [Act.put, List.setIfInBounds_toArray, List.set_cons_zero, List.set_cons_succ]
          refine wpAnyH_done (by kernel_rfl) ?_ _
          go_wp2_with fail
          go_meet
          case rel => exact ⟨w32.heap.size, py, ly, Ky, rfl, S.sub (.cons_cons _ (.cons_cons _ (.cons_cons _ (.cons_cons _ (.cons_cons _ (.cons_cons _ (.cons_cons _ (.cons _ (.cons_cons _ (.slnil)))))))))), ny, HH⟩
        ·
          go_simp
          clear hS
          have H := S.hnew 25 [.bool false, .slice none 0 0]
          replace S := S.alloc 25 [.bool false, .slice none 0 0] (w31.heap.size)
          replace n1 := n1.hold H
          replace n2 := n2.hold H
          replace ng := ng.hold H
          replace nc := nc.hold H
          replace nz := nz.hold H
          replace na := na.hold H
          replace HH := HH.trans H
          clear H
          refine hKK.out _ _ ⟨S.c 1 0 rfl rfl, S.c 1 1 rfl rfl, S.c 4 0 rfl rfl, S.c 4 1 rfl rfl⟩ (fun hS => ?_)
          generalize (w31.alloc (.cells #[.bool false, .slice none 0 0] 25)) = w36 at S n1 n2 ng nc nz na HH hS ⊢
          clear hKK KK
          try simp only [Act.put, List.setIfInBounds_toArray, List.set_cons_zero, List.set_cons_succ]
          refine wpAnyH_ready (rs := [3]) (by kernel_rfl) (by simp) (AllReadyH.cons ((List.getElem?_toArray ..).trans rfl) (fun KK hKK => ?_) AllReadyH.nil)
          go_simp
          clear hS
          refine (S.call (wdiv_to ⟨_, _, _, rfl, na⟩ ⟨_, _, _, rfl, nc⟩ HD.out.2.2.2.1 HG.out.2.1 y yr HG.out.2.2 HZ.out.2.2.1 HZ.out.2.2.2)).mono ?_
          clear S
          rintro e w37 ⟨⟨_, _, rfl, ⟨py, ly, Ky, rfl, ny⟩, ⟨pv, lv, Kv, rfl, nv⟩⟩, S, H⟩
          replace n1 := n1.hold H
          replace n2 := n2.hold H
          replace ng := ng.hold H
          replace nc := nc.hold H
          replace nz := nz.hold H
          replace na := na.hold H
          replace HH := HH.trans H
          clear H
          go_wp2_with fail
          refine hKK.out _ _ ⟨S.c 1 0 rfl rfl, S.c 1 1 rfl rfl, S.c 4 0 rfl rfl, S.c 4 1 rfl rfl⟩ (fun hS => ?_)
          clear hKK KK
          try simp only [Act.put, List.setIfInBounds_toArray, List.set_cons_zero, List.set_cons_succ]
          refine wpAnyH_take (i := 4) (v := ?_) ((List.getElem?_toArray ..).trans rfl) (by kernel_rfl) (by kernel_rfl) (by kernel_rfl) (fun _ _ _ h => h) (Or.inl ⟨rfl, fun W hW => ?_⟩) hS ?_
          rotate_left
          · obtain ⟨hW0, hW1, hW2, hW3⟩ := hW; go_simp; try first | rfl | kernel_rfl
          try simp only [Act.put, List.setIfInBounds_toArray, List.set_cons_zero, List.set_cons_succ]
          refine wpAnyH_take (i := 5) (v := ?_) ((List.getElem?_toArray ..).trans rfl) (by kernel_rfl) (by kernel_rfl) (by kernel_rfl) (fun _ _ _ h => h) (Or.inl ⟨rfl, fun W hW => ?_⟩) hS ?_
          rotate_left
          · obtain ⟨hW0, hW1, hW2, hW3⟩ := hW; go_simp; try first | rfl | kernel_rfl
          try simp only [Act.put, List.setIfInBounds_toArray, List.set_cons_zero, List.set_cons_succ]
          refine wpAnyH_take (i := 6) (v := ?_) ((List.getElem?_toArray ..).trans rfl) (by kernel_rfl) (by kernel_rfl) (by kernel_rfl) (fun _ _ _ h => h) (Or.inl ⟨rfl, fun W hW => ?_⟩) hS ?_
          rotate_left
          · obtain ⟨hW0, hW1, hW2, hW3⟩ := hW; go_simp; try first | rfl | kernel_rfl
          try simp only [Act.put, List.setIfInBounds_toArray, List.set_cons_zero, List.set_cons_succ]
          refine wpAnyH_take (i := 7) (v := ?_) ((List.getElem?_toArray ..).trans rfl) (by kernel_rfl) (by kernel_rfl) (by kernel_rfl) (fun _ _ _ h => h) (Or.inl ⟨rfl, fun W hW => ?_⟩) hS ?_
          rotate_left
          · obtain ⟨hW0, hW1, hW2, hW3⟩ := hW; go_simp; try first | rfl | kernel_rfl
          try simp only [Act.put, List.setIfInBounds_toArray, List.set_cons_zero, List.set_cons_succ]
          refine wpAnyH_ready (rs := [10]) (by kernel_rfl) (by simp) (AllReadyH.cons ((List.getElem?_toArray ..).trans rfl) (fun KK hKK => ?_) AllReadyH.nil)
          have c0 := S.c 8 0 rfl rfl
          have f0 := S.f 8 0 rfl
          have c1 := S.c 8 1 rfl rfl
          have f1 := S.f 8 1 rfl
          go_simp
          clear hS c0 f0 c1 f1
          have H := S.hset 8 0 (.bool (negB y)) rfl rfl (by intro q n e; cases e)
          replace S := S.set 8 0 (.bool (negB y)) rfl
          replace n1 := n1.hold H
          replace n2 := n2.hold H
          replace ng := ng.hold H
          replace nc := nc.hold H
          replace nz := nz.hold H
          replace na := na.hold H
          replace ny := ny.hold H
          replace HH := HH.trans H
          clear H
          have H := S.hset 8 1 (.slice py ly Ky) rfl rfl (by intro q n e; cases e)
          replace S := S.set 8 1 (.slice py ly Ky) rfl
          replace n1 := n1.hold H
          replace n2 := n2.hold H
          replace ng := ng.hold H
          replace nc := nc.hold H
          replace nz := nz.hold H
          replace na := na.hold H
          replace ny := ny.hold H
          replace HH := HH.trans H
          clear H
          refine hKK.out _ _ ⟨S.c 1 0 rfl rfl, S.c 1 1 rfl rfl, S.c 4 0 rfl rfl, S.c 4 1 rfl rfl⟩ (fun hS => ?_)
          generalize ((w37.setCell ⟨w31.heap.size, 0, none⟩ (.bool (negB y))).setCell ⟨w31.heap.size, 1, none⟩ (.slice py ly Ky)) = w38 at S n1 n2 ng nc nz na ny HH hS ⊢
          clear hKK KK
          try simp only [Act.put, List.setIfInBounds_toArray, List.set_cons_zero, List.set_cons_succ]
          refine wpAnyH_ready (rs := [11]) (by kernel_rfl) (by simp) (AllReadyH.cons ((List.getElem?_toArray ..).trans rfl) (fun KK hKK => ?_) AllReadyH.nil)
          have c0 := S.c 7 0 rfl rfl
          have f0 := S.f 7 0 rfl
          have c1 := S.c 7 1 rfl rfl
          have f1 := S.f 7 1 rfl
          go_simp
          clear hS c0 f0 c1 f1
          have H := S.hset 7 0 (.bool (negB yr)) rfl rfl (by intro q n e; cases e)
          replace S := S.set 7 0 (.bool (negB yr)) rfl
          replace n1 := n1.hold H
          replace n2 := n2.hold H
          replace ng := ng.hold H
          replace nc := nc.hold H
          replace nz := nz.hold H
          replace na := na.hold H
          replace ny := ny.hold H
          replace HH := HH.trans H
          clear H
          have H := S.hset 7 1 (.slice pv lv Kv) rfl rfl (by intro q n e; cases e)
          replace S := S.set 7 1 (.slice pv lv Kv) rfl
          replace n1 := n1.hold H
          replace n2 := n2.hold H
          replace ng := ng.hold H
          replace nc := nc.hold H
          replace nz := nz.hold H
          replace na := na.hold H
          replace ny := ny.hold H
          replace HH := HH.trans H
          clear H
          refine hKK.out _ _ ⟨S.c 1 0 rfl rfl, S.c 1 1 rfl rfl, S.c 4 0 rfl rfl, S.c 4 1 rfl rfl⟩ (fun hS => ?_)
          generalize ((w38.setCell ⟨w12.heap.size, 0, none⟩ (.bool (negB yr))).setCell ⟨w12.heap.size, 1, none⟩ (.slice pv lv Kv)) = w39 at S n1 n2 ng nc nz na ny HH hS ⊢
          clear hKK KK
          try simp only [Act.put, List.setIfInBounds_toArray, List.set_cons_zero, List.set_cons_succ]
          refine wpAnyH_ready (rs := [12]) (by kernel_rfl) (by simp) (AllReadyH.cons ((List.getElem?_toArray ..).trans rfl) (fun KK hKK => ?_) AllReadyH.nil)
          go_simp
          refine hKK.out _ _ hS (fun hS => ?_)
          clear hKK KK
          try simp only [Act.put, List.setIfInBounds_toArray, List.set_cons_zero, List.set_cons_succ]
          refine wpAnyH_done (by kernel_rfl) ?_ _
          go_wp2_with fail
          go_meet
          case rel => exact ⟨w31.heap.size, py, ly, Ky, rfl, S.sub (.cons_cons _ (.cons_cons _ (.cons_cons _ (.cons_cons _ (.cons_cons _ (.cons_cons _ (.cons_cons _ (.cons _ (.cons_cons _ (.slnil)))))))))), ny, HH⟩
    ·
      go_simp
      clear hS
      have H := S.hnew 25 [.bool false, .slice none 0 0]
      replace S := S.alloc 25 [.bool false, .slice none 0 0] (w11.heap.size)
      replace n1 := n1.hold H
      replace n2 := n2.hold H
      replace ng := ng.hold H
      replace nc := nc.hold H
      replace nz := nz.hold H
      replace HH := HH.trans H
      clear H
      refine hKK.out _ _ ⟨S.c 1 0 rfl rfl, S.c 1 1 rfl rfl, S.c 4 0 rfl rfl, S.c 4 1 rfl rfl⟩ (fun hS => ?_)
      generalize (w11.alloc (.cells #[.bool false, .slice none 0 0] 25)) = w40 at S n1 n2 ng nc nz HH hS ⊢
      clear hKK KK
      try simp only [Act.put, List.setIfInBounds_toArray, List.set_cons_zero, List.set_cons_succ]
      refine wpAnyH_ready (rs := [1, 9]) (by kernel_rfl) (by simp) (AllReadyH.cons ((List.getElem?_toArray ..).trans rfl) (fun KK hKK => ?_) (AllReadyH.cons ((List.getElem?_toArray ..).trans rfl) (fun KK hKK => ?_) AllReadyH.nil))
      ·
        go_simp
        clear hS
        refine (S.call (wabs_any ⟨_, _, _, by rw [HD.out.2.1], n2⟩ HD.out.2.2.2.1 ((d.natAbs : Nat) : Int) rfl)).mono ?_
        clear S
        rintro e w41 ⟨⟨_, rfl, pa, la, Ka, rfl, na⟩, S, H⟩
        replace n1 := n1.hold H
        replace n2 := n2.hold H
        replace ng := ng.hold H
        replace nc := nc.hold H
        replace nz := nz.hold H
        replace HH := HH.trans H
        clear H
        go_wp2_with fail
        refine hKK.out _ _ ⟨S.c 1 0 rfl rfl, S.c 1 1 rfl rfl, S.c 4 0 rfl rfl, S.c 4 1 rfl rfl⟩ (fun hS => ?_)
        clear hKK KK
        try simp only [Act.put, List.setIfInBounds_toArray, List.set_cons_zero, List.set_cons_succ]
        refine wpAnyH_ready (rs := [3, 9]) (by kernel_rfl) (by simp) (AllReadyH.cons ((List.getElem?_toArray ..).trans rfl) (fun KK hKK => ?_) (AllReadyH.cons ((List.getElem?_toArray ..).trans rfl) (fun KK hKK => ?_) AllReadyH.nil))
        ·
          go_simp
          clear hS
          refine (S.call (wdiv_to ⟨_, _, _, rfl, na⟩ ⟨_, _, _, rfl, nc⟩ HD.out.2.2.2.1 HG.out.2.1 y yr HG.out.2.2 HZ.out.2.2.1 HZ.out.2.2.2)).mono ?_
          clear S
          rintro e w42 ⟨⟨_, _, rfl, ⟨py, ly, Ky, rfl, ny⟩, ⟨pv, lv, Kv, rfl, nv⟩⟩, S, H⟩
          replace n1 := n1.hold H
          replace n2 := n2.hold H
          replace ng := ng.hold H
          replace nc := nc.hold H
          replace nz := nz.hold H
          replace na := na.hold H
          replace HH := HH.trans H
          clear H
          go_wp2_with fail
          refine hKK.out _ _ ⟨S.c 1 0 rfl rfl, S.c 1 1 rfl rfl, S.c 4 0 rfl rfl, S.c 4 1 rfl rfl⟩ (fun hS => ?_)
          clear hKK KK
          try simp only [Act.put, List.setIfInBounds_toArray, List.set_cons_zero, List.set_cons_succ]
          refine wpAnyH_take (i := 4) (v := ?_) ((List.getElem?_toArray ..).trans rfl) (by kernel_rfl) (by kernel_rfl) (by kernel_rfl) (fun _ _ _ h => h) (Or.inl ⟨rfl, fun W hW => ?_⟩) hS ?_
          rotate_left
          · obtain ⟨hW0, hW1, hW2, hW3⟩ := hW; go_simp; try first | rfl | kernel_rfl
          try simp only [Act.put, List.setIfInBounds_toArray, List.set_cons_zero, List.set_cons_succ]
          refine wpAnyH_take (i := 5) (v := ?_) ((List.getElem?_toArray ..).trans rfl) (by kernel_rfl) (by kernel_rfl) (by kernel_rfl) (fun _ _ _ h => h) (Or.inl ⟨rfl, fun W hW => ?_⟩) hS ?_
          rotate_left
          · obtain ⟨hW0, hW1, hW2, hW3⟩ := hW; go_simp; try first | rfl | kernel_rfl
          try simp only [Act.put, List.setIfInBounds_toArray, List.set_cons_zero, List.set_cons_succ]
          refine wpAnyH_take (i := 6) (v := ?_) ((List.getElem?_toArray ..).trans rfl) (by kernel_rfl) (by kernel_rfl) (by kernel_rfl) (fun _ _ _ h => h) (Or.inl ⟨rfl, fun W hW => ?_⟩) hS ?_
          rotate_left
          · obtain ⟨hW0, hW1, hW2, hW3⟩ := hW; go_simp; try first | rfl | kernel_rfl
          try simp only [Act.put, List.setIfInBounds_toArray, List.set_cons_zero, List.set_cons_succ]
          refine wpAnyH_take (i := 7) (v := ?_) ((List.getElem?_toArray ..).trans rfl) (by kernel_rfl) (by kernel_rfl) (by kernel_rfl) (fun _ _ _ h => h) (Or.inl ⟨rfl, fun W hW => ?_⟩) hS ?_
          rotate_left
          · obtain ⟨hW0, hW1, hW2, hW3⟩ := hW; go_simp; try first | rfl | kernel_rfl
          try simp only [Act.put, List.setIfInBounds_toArray, List.set_cons_zero, List.set_cons_succ]
          refine wpAnyH_ready (rs := [9]) (by kernel_rfl) (by simp) (AllReadyH.cons ((List.getElem?_toArray ..).trans rfl) (fun KK hKK => ?_) AllReadyH.nil)
          go_simp
          clear hS
          have H := S.hnew 25 [.bool false, .slice none 0 0]
          replace S := S.alloc 25 [.bool false, .slice none 0 0] (w42.heap.size)
          replace n1 := n1.hold H
          replace n2 := n2.hold H
          replace ng := ng.hold H
          replace nc := nc.hold H
          replace nz := nz.hold H
          replace na := na.hold H
          replace ny := ny.hold H
          replace HH := HH.trans H
          clear H
          refine hKK.out _ _ ⟨S.c 1 0 rfl rfl, S.c 1 1 rfl rfl, S.c 4 0 rfl rfl, S.c 4 1 rfl rfl⟩ (fun hS => ?_)
          generalize (w42.alloc (.cells #[.bool false, .slice none 0 0] 25)) = w43 at S n1 n2 ng nc nz na ny HH hS ⊢
          clear hKK KK
          try simp only [Act.put, List.setIfInBounds_toArray, List.set_cons_zero, List.set_cons_succ]
          refine wpAnyH_ready (rs := [10]) (by kernel_rfl) (by simp) (AllReadyH.cons ((List.getElem?_toArray ..).trans rfl) (fun KK hKK => ?_) AllReadyH.nil)
          have c0 := S.c 7 0 rfl rfl
          have f0 := S.f 7 0 rfl
          have c1 := S.c 7 1 rfl rfl
          have f1 := S.f 7 1 rfl
          go_simp
          clear hS c0 f0 c1 f1
          have H := S.hset 7 0 (.bool (negB y)) rfl rfl (by intro q n e; cases e)
          replace S := S.set 7 0 (.bool (negB y)) rfl
          replace n1 := n1.hold H
          replace n2 := n2.hold H
          replace ng := ng.hold H
          replace nc := nc.hold H
          replace nz := nz.hold H
          replace na := na.hold H
          replace ny := ny.hold H
          replace HH := HH.trans H
          clear H
          have H := S.hset 7 1 (.slice py ly Ky) rfl rfl (by intro q n e; cases e)
          replace S := S.set 7 1 (.slice py ly Ky) rfl
          replace n1 := n1.hold H
          replace n2 := n2.hold H
          replace ng := ng.hold H
          replace nc := nc.hold H
          replace nz := nz.hold H
          replace na := na.hold H
          replace ny := ny.hold H
          replace HH := HH.trans H
          clear H
          refine hKK.out _ _ ⟨S.c 1 0 rfl rfl, S.c 1 1 rfl rfl, S.c 4 0 rfl rfl, S.c 4 1 rfl rfl⟩ (fun hS => ?_)
          generalize ((w43.setCell ⟨w11.heap.size, 0, none⟩ (.bool (negB y))).setCell ⟨w11.heap.size, 1, none⟩ (.slice py ly Ky)) = w44 at S n1 n2 ng nc nz na ny HH hS ⊢
          clear hKK KK
          try simp only [Act.put, List.setIfInBounds_toArray, List.set_cons_zero, List.set_cons_succ]
          refine wpAnyH_ready (rs := [11]) (by kernel_rfl) (by simp) (AllReadyH.cons ((List.getElem?_toArray ..).trans rfl) (fun KK hKK => ?_) AllReadyH.nil)
          have c0 := S.c 8 0 rfl rfl
          have f0 := S.f 8 0 rfl
          have c1 := S.c 8 1 rfl rfl
          have f1 := S.f 8 1 rfl
          go_simp
          clear hS c0 f0 c1 f1
          have H := S.hset 8 0 (.bool (negB yr)) rfl rfl (by intro q n e; cases e)
          replace S := S.set 8 0 (.bool (negB yr)) rfl
          replace n1 := n1.hold H
          replace n2 := n2.hold H
          replace ng := ng.hold H
          replace nc := nc.hold H
          replace nz := nz.hold H
          replace na := na.hold H
          replace ny := ny.hold H
          replace HH := HH.trans H
          clear H
          have H := S.hset 8 1 (.slice pv lv Kv) rfl rfl (by intro q n e; cases e)
          replace S := S.set 8 1 (.slice pv lv Kv) rfl
          replace n1 := n1.hold H
          replace n2 := n2.hold H
          replace ng := ng.hold H
          replace nc := nc.hold H
          replace nz := nz.hold H
          replace na := na.hold H
          replace ny := ny.hold H
          replace HH := HH.trans H
          clear H
          refine hKK.out _ _ ⟨S.c 1 0 rfl rfl, S.c 1 1 rfl rfl, S.c 4 0 rfl rfl, S.c 4 1 rfl rfl⟩ (fun hS => ?_)
          generalize ((w44.setCell ⟨w42.heap.size, 0, none⟩ (.bool (negB yr))).setCell ⟨w42.heap.size, 1, none⟩ (.slice pv lv Kv)) = w45 at S n1 n2 ng nc nz na ny HH hS ⊢
          clear hKK KK
          try simp only [Act.put, List.setIfInBounds_toArray, List.set_cons_zero, List.set_cons_succ]
          refine wpAnyH_ready (rs := [12]) (by kernel_rfl) (by simp) (AllReadyH.cons ((List.getElem?_toArray ..).trans rfl) (fun KK hKK => ?_) AllReadyH.nil)
          go_simp
          refine hKK.out _ _ hS (fun hS => ?_)
          clear hKK KK
          try simp only [Act.put, List.setIfInBounds_toArray, List.set_cons_zero, List.set_cons_succ]
          refine wpAnyH_done (by kernel_rfl) ?_ _
          go_wp2_with fail
          go_meet
          case rel => exact ⟨w11.heap.size, py, ly, Ky, rfl, S.sub (.cons_cons _ (.cons_cons _ (.cons_cons _ (.cons_cons _ (.cons_cons _ (.cons_cons _ (.cons_cons _ (.cons_cons _ (.cons _ (.slnil)))))))))), ny, HH⟩
        ·
          go_simp
          clear hS
          have H := S.hnew 25 [.bool false, .slice none 0 0]
          replace S := S.alloc 25 [.bool false, .slice none 0 0] (w41.heap.size)
          replace n1 := n1.hold H
          replace n2 := n2.hold H
          replace ng := ng.hold H
          replace nc := nc.hold H
          replace nz := nz.hold H
          replace na := na.hold H
          replace HH := HH.trans H
          clear H
          refine hKK.out _ _ ⟨S.c 1 0 rfl rfl, S.c 1 1 rfl rfl, S.c 4 0 rfl rfl, S.c 4 1 rfl rfl⟩ (fun hS => ?_)
          generalize (w41.alloc (.cells #[.bool false, .slice none 0 0] 25)) = w46 at S n1 n2 ng nc nz na HH hS ⊢
          clear hKK KK
          try simp only [Act.put, List.setIfInBounds_toArray, List.set_cons_zero, List.set_cons_succ]
          refine wpAnyH_ready (rs := [3]) (by kernel_rfl) (by simp) (AllReadyH.cons ((List.getElem?_toArray ..).trans rfl) (fun KK hKK => ?_) AllReadyH.nil)
          go_simp
          clear hS
          refine (S.call (wdiv_to ⟨_, _, _, rfl, na⟩ ⟨_, _, _, rfl, nc⟩ HD.out.2.2.2.1 HG.out.2.1 y yr HG.out.2.2 HZ.out.2.2.1 HZ.out.2.2.2)).mono ?_
          clear S
          rintro e w47 ⟨⟨_, _, rfl, ⟨py, ly, Ky, rfl, ny⟩, ⟨pv, lv, Kv, rfl, nv⟩⟩, S, H⟩
          replace n1 := n1.hold H
          replace n2 := n2.hold H
          replace ng := ng.hold H
          replace nc := nc.hold H
          replace nz := nz.hold H
          replace na := na.hold H
          replace HH := HH.trans H
          clear H
          go_wp2_with fail
          refine hKK.out _ _ ⟨S.c 1 0 rfl rfl, S.c 1 1 rfl rfl, S.c 4 0 rfl rfl, S.c 4 1 rfl rfl⟩ (fun hS => ?_)
          clear hKK KK
          try simp only [Act.put, List.setIfInBounds_toArray, List.set_cons_zero, List.set_cons_succ]
          refine wpAnyH_take (i := 4) (v := ?_) ((List.getElem?_toArray ..).trans rfl) (by kernel_rfl) (by kernel_rfl) (by kernel_rfl) (fun _ _ _ h => h) (Or.inl ⟨rfl, fun W hW => ?_⟩) hS ?_
          rotate_left
          · obtain ⟨hW0, hW1, hW2, hW3⟩ := hW; go_simp; try first | rfl | kernel_rfl
          try simp only [Act.put, List.setIfInBounds_toArray, List.set_cons_zero, List.set_cons_succ]
          refine wpAnyH_take (i := 5) (v := ?_) ((List.getElem?_toArray ..).trans rfl) (by kernel_rfl) (by kernel_rfl) (by kernel_rfl) (fun _ _ _ h => h) (Or.inl ⟨rfl, fun W hW => ?_⟩) hS ?_
          rotate_left
          · obtain ⟨hW0, hW1, hW2, hW3⟩ := hW; go_simp; try first | rfl | kernel_rfl
          try simp only [Act.put, List.setIfInBounds_toArray, List.set_cons_zero, List.set_cons_succ]
          refine wpAnyH_take (i := 6) (v := ?_) ((List.getElem?_toArray ..).trans rfl) (by kernel_rfl) (by kernel_rfl) (by kernel_rfl) (fun _ _ _ h => h) (Or.inl ⟨rfl, fun W hW => ?_⟩) hS ?_
          rotate_left
          · obtain ⟨hW0, hW1, hW2, hW3⟩ := hW; go_simp; try first | rfl | kernel_rfl
          try simp only [Act.put, List.setIfInBounds_toArray, List.set_cons_zero, List.set_cons_succ]
          refine wpAnyH_take (i := 7) (v := ?_) ((List.getElem?_toArray ..).trans rfl) (by kernel_rfl) (by kernel_rfl) (by kernel_rfl) (fun _ _ _ h => h) (Or.inl ⟨rfl, fun W hW => ?_⟩) hS ?_
          rotate_left
          · obtain ⟨hW0, hW1, hW2, hW3⟩ := hW; go_simp; try first | rfl | kernel_rfl
          try simp only [Act.put, List.setIfInBounds_toArray, List.set_cons_zero, List.set_cons_succ]
          refine wpAnyH_ready (rs := [10]) (by kernel_rfl) (by simp) (AllReadyH.cons ((List.getElem?_toArray ..).trans rfl) (fun KK hKK => ?_) AllReadyH.nil)
          have c0 := S.c 7 0 rfl rfl
          have f0 := S.f 7 0 rfl
          have c1 := S.c 7 1 rfl rfl
          have f1 := S.f 7 1 rfl
          go_simp
          clear hS c0 f0 c1 f1
          have H := S.hset 7 0 (.bool (negB y)) rfl rfl (by intro q n e; cases e)
          replace S := S.set 7 0 (.bool (negB y)) rfl
          replace n1 := n1.hold H
          replace n2 := n2.hold H
          replace ng := ng.hold H
          replace nc := nc.hold H
          replace nz := nz.hold H
          replace na := na.hold H
          replace ny := ny.hold H
          replace HH := HH.trans H
          clear H
          have H := S.hset 7 1 (.slice py ly Ky) rfl rfl (by intro q n e; cases e)
          replace S := S.set 7 1 (.slice py ly Ky) rfl
          replace n1 := n1.hold H
          replace n2 := n2.hold H
          replace ng := ng.hold H
          replace nc := nc.hold H
          replace nz := nz.hold H
          replace na := na.hold H
          replace ny := ny.hold H
          replace HH := HH.trans H
          clear H
          refine hKK.out _ _ ⟨S.c 1 0 rfl rfl, S.c 1 1 rfl rfl, S.c 4 0 rfl rfl, S.c 4 1 rfl rfl⟩ (fun hS => ?_)
          generalize ((w47.setCell ⟨w11.heap.size, 0, none⟩ (.bool (negB y))).setCell ⟨w11.heap.size, 1, none⟩ (.slice py ly Ky)) = w48 at S n1 n2 ng nc nz na ny HH hS ⊢
          clear hKK KK
          try simp only [Act.put, List.setIfInBounds_toArray, List.set_cons_zero, List.set_cons_succ]
          refine wpAnyH_ready (rs := [11]) (by kernel_rfl) (by simp) (AllReadyH.cons ((List.getElem?_toArray ..).trans rfl) (fun KK hKK => ?_) AllReadyH.nil)
          have c0 := S.c 8 0 rfl rfl
          have f0 := S.f 8 0 rfl
          have c1 := S.c 8 1 rfl rfl
          have f1 := S.f 8 1 rfl
          go_simp
          clear hS c0 f0 c1 f1
          have H := S.hset 8 0 (.bool (negB yr)) rfl rfl (by intro q n e; cases e)
          replace S := S.set 8 0 (.bool (negB yr)) rfl
          replace n1 := n1.hold H
          replace n2 := n2.hold H
          replace ng := ng.hold H
          replace nc := nc.hold H
          replace nz := nz.hold H
          replace na := na.hold H
          replace ny := ny.hold H
          replace HH := HH.trans H
          clear H
          have H := S.hset 8 1 (.slice pv lv Kv) rfl rfl (by intro q n e; cases e)
          replace S := S.set 8 1 (.slice pv lv Kv) rfl
          replace n1 := n1.hold H
          replace n2 := n2.hold H
          replace ng := ng.hold H
          replace nc := nc.hold H
          replace nz := nz.hold H
          replace na := na.hold H
          replace ny := ny.hold H
          replace HH := HH.trans H
          clear H
          refine hKK.out _ _ ⟨S.c 1 0 rfl rfl, S.c 1 1 rfl rfl, S.c 4 0 rfl rfl, S.c 4 1 rfl rfl⟩ (fun hS => ?_)
          generalize ((w48.setCell ⟨w41.heap.size, 0, none⟩ (.bool (negB yr))).setCell ⟨w41.heap.size, 1, none⟩ (.slice pv lv Kv)) = w49 at S n1 n2 ng nc nz na ny HH hS ⊢
          clear hKK KK
          try simp only [Act.put, List.setIfInBounds_toArray, List.set_cons_zero, List.set_cons_succ]
          refine wpAnyH_ready (rs := [12]) (by kernel_rfl) (by simp) (AllReadyH.cons ((List.getElem?_toArray ..).trans rfl) (fun KK hKK => ?_) AllReadyH.nil)
          go_simp
          refine hKK.out _ _ hS (fun hS => ?_)
          clear hKK KK
          try simp only [Act.put, List.setIfInBounds_toArray, List.set_cons_zero, List.set_cons_succ]
          refine wpAnyH_done (by kernel_rfl) ?_ _
          go_wp2_with fail
          go_meet
          case rel => exact ⟨w11.heap.size, py, ly, Ky, rfl, S.sub (.cons_cons _ (.cons_cons _ (.cons_cons _ (.cons_cons _ (.cons_cons _ (.cons_cons _ (.cons_cons _ (.cons_cons _ (.cons _ (.slnil)))))))))), ny, HH⟩
      ·
        go_simp
        clear hS
        have H := S.hnew 25 [.bool false, .slice none 0 0]
        replace S := S.alloc 25 [.bool false, .slice none 0 0] (w40.heap.size)
        replace n1 := n1.hold H
        replace n2 := n2.hold H
        replace ng := ng.hold H
        replace nc := nc.hold H
        replace nz := nz.hold H
        replace HH := HH.trans H
        clear H
        refine hKK.out _ _ ⟨S.c 1 0 rfl rfl, S.c 1 1 rfl rfl, S.c 4 0 rfl rfl, S.c 4 1 rfl rfl⟩ (fun hS => ?_)
        generalize (w40.alloc (.cells #[.bool false, .slice none 0 0] 25)) = w50 at S n1 n2 ng nc nz HH hS ⊢
        clear hKK KK
        try simp only [Act.put, List.setIfInBounds_toArray, List.set_cons_zero, List.set_cons_succ]
        refine wpAnyH_ready (rs := [1]) (by kernel_rfl) (by simp) (AllReadyH.cons ((List.getElem?_toArray ..).trans rfl) (fun KK hKK => ?_) AllReadyH.nil)
        go_simp
        clear hS
        refine (S.call (wabs_any ⟨_, _, _, by rw [HD.out.2.1], n2⟩ HD.out.2.2.2.1 ((d.natAbs : Nat) : Int) rfl)).mono ?_
        clear S
        rintro e w51 ⟨⟨_, rfl, pa, la, Ka, rfl, na⟩, S, H⟩
        replace n1 := n1.hold H
        replace n2 := n2.hold H
        replace ng := ng.hold H
        replace nc := nc.hold H
        replace nz := nz.hold H
        replace HH := HH.trans H
        clear H
        go_wp2_with fail
        refine hKK.out _ _ ⟨S.c 1 0 rfl rfl, S.c 1 1 rfl rfl, S.c 4 0 rfl rfl, S.c 4 1 rfl rfl⟩ (fun hS => ?_)
        clear hKK KK
        try simp only [Act.put, List.setIfInBounds_toArray, List.set_cons_zero, List.set_cons_succ]
        refine wpAnyH_ready (rs := [3]) (by kernel_rfl) (by simp) (AllReadyH.cons ((List.getElem?_toArray ..).trans rfl) (fun KK hKK => ?_) AllReadyH.nil)
        go_simp
        clear hS
        refine (S.call (wdiv_to ⟨_, _, _, rfl, na⟩ ⟨_, _, _, rfl, nc⟩ HD.out.2.2.2.1 HG.out.2.1 y yr HG.out.2.2 HZ.out.2.2.1 HZ.out.2.2.2)).mono ?_
        clear S
        rintro e w52 ⟨⟨_, _, rfl, ⟨py, ly, Ky, rfl, ny⟩, ⟨pv, lv, Kv, rfl, nv⟩⟩, S, H⟩
        replace n1 := n1.hold H
        replace n2 := n2.hold H
        replace ng := ng.hold H
        replace nc := nc.hold H
        replace nz := nz.hold H
        replace na := na.hold H
        replace HH := HH.trans H
        clear H
        go_wp2_with fail
        refine hKK.out _ _ ⟨S.c 1 0 rfl rfl, S.c 1 1 rfl rfl, S.c 4 0 rfl rfl, S.c 4 1 rfl rfl⟩ (fun hS => ?_)
        clear hKK KK
        try simp only [Act.put, List.setIfInBounds_toArray, List.set_cons_zero, List.set_cons_succ]
        refine wpAnyH_take (i := 4) (v := ?_) ((List.getElem?_toArray ..).trans rfl) (by kernel_rfl) (by kernel_rfl) (by kernel_rfl) (fun _ _ _ h => h) (Or.inl ⟨rfl, fun W hW => ?_⟩) hS ?_
        rotate_left
        · obtain ⟨hW0, hW1, hW2, hW3⟩ := hW; go_simp; try first | rfl | kernel_rfl
        try simp only [Act.put, List.setIfInBounds_toArray, List.set_cons_zero, List.set_cons_succ]
        refine wpAnyH_take (i := 5) (v := ?_) ((List.getElem?_toArray ..).trans rfl) (by kernel_rfl) (by kernel_rfl) (by kernel_rfl) (fun _ _ _ h => h) (Or.inl ⟨rfl, fun W hW => ?_⟩) hS ?_
        rotate_left
        · obtain ⟨hW0, hW1, hW2, hW3⟩ := hW; go_simp; try first | rfl | kernel_rfl
        try simp only [Act.put, List.setIfInBounds_toArray, List.set_cons_zero, List.set_cons_succ]
        refine wpAnyH_take (i := 6) (v := ?_) ((List.getElem?_toArray ..).trans rfl) (by kernel_rfl) (by kernel_rfl) (by kernel_rfl) (fun _ _ _ h => h) (Or.inl ⟨rfl, fun W hW => ?_⟩) hS ?_
        rotate_left
        · obtain ⟨hW0, hW1, hW2, hW3⟩ := hW; go_simp; try first | rfl | kernel_rfl
        try simp only [Act.put, List.setIfInBounds_toArray, List.set_cons_zero, List.set_cons_succ]
        refine wpAnyH_take (i := 7) (v := ?_) ((List.getElem?_toArray ..).trans rfl) (by kernel_rfl) (by kernel_rfl) (by kernel_rfl) (fun _ _ _ h => h) (Or.inl ⟨rfl, fun W hW => ?_⟩) hS ?_
        rotate_left
        · obtain ⟨hW0, hW1, hW2, hW3⟩ := hW; go_simp; try first | rfl | kernel_rfl
        try simp only [Act.put, List.setIfInBounds_toArray, List.set_cons_zero, List.set_cons_succ]
        refine wpAnyH_ready (rs := [10]) (by kernel_rfl) (by simp) (AllReadyH.cons ((List.getElem?_toArray ..).trans rfl) (fun KK hKK => ?_) AllReadyH.nil)
        have c0 := S.c 7 0 rfl rfl
        have f0 := S.f 7 0 rfl
        have c1 := S.c 7 1 rfl rfl
        have f1 := S.f 7 1 rfl
        go_simp
        clear hS c0 f0 c1 f1
        have H := S.hset 7 0 (.bool (negB y)) rfl rfl (by intro q n e; cases e)
        replace S := S.set 7 0 (.bool (negB y)) rfl
        replace n1 := n1.hold H
        replace n2 := n2.hold H
        replace ng := ng.hold H
        replace nc := nc.hold H
        replace nz := nz.hold H
        replace na := na.hold H
        replace ny := ny.hold H
        replace HH := HH.trans H
        clear H
        have H := S.hset 7 1 (.slice py ly Ky) rfl rfl (by intro q n e; cases e)
        replace S := S.set 7 1 (.slice py ly Ky) rfl
        replace n1 := n1.hold H
        replace n2 := n2.hold H
        replace ng := ng.hold H
        replace nc := nc.hold H
        replace nz := nz.hold H
        replace na := na.hold H
        replace ny := ny.hold H
        replace HH := HH.trans H
        clear H
        refine hKK.out _ _ ⟨S.c 1 0 rfl rfl, S.c 1 1 rfl rfl, S.c 4 0 rfl rfl, S.c 4 1 rfl rfl⟩ (fun hS => ?_)
        generalize ((w52.setCell ⟨w11.heap.size, 0, none⟩ (.bool (negB y))).setCell ⟨w11.heap.size, 1, none⟩ (.slice py ly Ky)) = w53 at S n1 n2 ng nc nz na ny HH hS ⊢
        clear hKK KK
        try simp only [Act.put, List.setIfInBounds_toArray, List.set_cons_zero, List.set_cons_succ]
        refine wpAnyH_ready (rs := [11]) (by kernel_rfl) (by simp) (AllReadyH.cons ((List.getElem?_toArray ..).trans rfl) (fun KK hKK => ?_) AllReadyH.nil)
        have c0 := S.c 8 0 rfl rfl
        have f0 := S.f 8 0 rfl
        have c1 := S.c 8 1 rfl rfl
        have f1 := S.f 8 1 rfl
        go_simp
        clear hS c0 f0 c1 f1
        have H := S.hset 8 0 (.bool (negB yr)) rfl rfl (by intro q n e; cases e)
        replace S := S.set 8 0 (.bool (negB yr)) rfl
        replace n1 := n1.hold H
        replace n2 := n2.hold H
        replace ng := ng.hold H
        replace nc := nc.hold H
        replace nz := nz.hold H
        replace na := na.hold H
        replace ny := ny.hold H
        replace HH := HH.trans H
        clear H
        have H := S.hset 8 1 (.slice pv lv Kv) rfl rfl (by intro q n e; cases e)
        replace S := S.set 8 1 (.slice pv lv Kv) rfl
        replace n1 := n1.hold H
        replace n2 := n2.hold H
        replace ng := ng.hold H
        replace nc := nc.hold H
        replace nz := nz.hold H
        replace na := na.hold H
        replace ny := ny.hold H
        replace HH := HH.trans H
        clear H
        refine hKK.out _ _ ⟨S.c 1 0 rfl rfl, S.c 1 1 rfl rfl, S.c 4 0 rfl rfl, S.c 4 1 rfl rfl⟩ (fun hS => ?_)
        generalize ((w53.setCell ⟨w40.heap.size, 0, none⟩ (.bool (negB yr))).setCell ⟨w40.heap.size, 1, none⟩ (.slice pv lv Kv)) = w54 at S n1 n2 ng nc nz na ny HH hS ⊢
        clear hKK KK
        try simp only [Act.put, List.setIfInBounds_toArray, List.set_cons_zero, List.set_cons_succ]
        refine wpAnyH_ready (rs := [12]) (by kernel_rfl) (by simp) (AllReadyH.cons ((List.getElem?_toArray ..).trans rfl) (fun KK hKK => ?_) AllReadyH.nil)
        go_simp
        refine hKK.out _ _ hS (fun hS => ?_)
        clear hKK KK
        try simp only [Act.put, List.setIfInBounds_toArray, List.set_cons_zero, List.set_cons_succ]
        refine wpAnyH_done (by kernel_rfl) ?_ _
        go_wp2_with fail
        go_meet
        case rel => exact ⟨w11.heap.size, py, ly, Ky, rfl, S.sub (.cons_cons _ (.cons_cons _ (.cons_cons _ (.cons_cons _ (.cons_cons _ (.cons_cons _ (.cons_cons _ (.cons_cons _ (.cons _ (.slnil)))))))))), ny, HH⟩
    ·
      go_simp
      clear hS
      have H := S.hnew 25 [.bool false, .slice none 0 0]
      replace S := S.alloc 25 [.bool false, .slice none 0 0] (w11.heap.size)
      replace n1 := n1.hold H
      replace n2 := n2.hold H
      replace ng := ng.hold H
      replace nc := nc.hold H
      replace nz := nz.hold H
      replace HH := HH.trans H
      clear H
      refine hKK.out _ _ ⟨S.c 1 0 rfl rfl, S.c 1 1 rfl rfl, S.c 4 0 rfl rfl, S.c 4 1 rfl rfl⟩ (fun hS => ?_)
      generalize (w11.alloc (.cells #[.bool false, .slice none 0 0] 25)) = w55 at S n1 n2 ng nc nz HH hS ⊢
      clear hKK KK
      try simp only [Act.put, List.setIfInBounds_toArray, List.set_cons_zero, List.set_cons_succ]
      refine wpAnyH_ready (rs := [1, 8]) (by kernel_rfl) (by simp) (AllReadyH.cons ((List.getElem?_toArray ..).trans rfl) (fun KK hKK => ?_) (AllReadyH.cons ((List.getElem?_toArray ..).trans rfl) (fun KK hKK => ?_) AllReadyH.nil))
      ·
        go_simp
        clear hS
        refine (S.call (wabs_any ⟨_, _, _, by rw [HD.out.2.1], n2⟩ HD.out.2.2.2.1 ((d.natAbs : Nat) : Int) rfl)).mono ?_
        clear S
        rintro e w56 ⟨⟨_, rfl, pa, la, Ka, rfl, na⟩, S, H⟩
        replace n1 := n1.hold H
        replace n2 := n2.hold H
        replace ng := ng.hold H
        replace nc := nc.hold H
        replace nz := nz.hold H
        replace HH := HH.trans H
        clear H
        go_wp2_with fail
        refine hKK.out _ _ ⟨S.c 1 0 rfl rfl, S.c 1 1 rfl rfl, S.c 4 0 rfl rfl, S.c 4 1 rfl rfl⟩ (fun hS => ?_)
        clear hKK KK
        try simp only [Act.put, List.setIfInBounds_toArray, List.set_cons_zero, List.set_cons_succ]
        refine wpAnyH_ready (rs := [3, 8]) (by kernel_rfl) (by simp) (AllReadyH.cons ((List.getElem?_toArray ..).trans rfl) (fun KK hKK => ?_) (AllReadyH.cons ((List.getElem?_toArray ..).trans rfl) (fun KK hKK => ?_) AllReadyH.nil))
        ·
          go_simp
          clear hS
          refine (S.call (wdiv_to ⟨_, _, _, rfl, na⟩ ⟨_, _, _, rfl, nc⟩ HD.out.2.2.2.1 HG.out.2.1 y yr HG.out.2.2 HZ.out.2.2.1 HZ.out.2.2.2)).mono ?_
          clear S
          rintro e w57 ⟨⟨_, _, rfl, ⟨py, ly, Ky, rfl, ny⟩, ⟨pv, lv, Kv, rfl, nv⟩⟩, S, H⟩
          replace n1 := n1.hold H
          replace n2 := n2.hold H
          replace ng := ng.hold H
          replace nc := nc.hold H
          replace nz := nz.hold H
          replace na := na.hold H
          replace HH := HH.trans H
          clear H
          go_wp2_with fail
          refine hKK.out _ _ ⟨S.c 1 0 rfl rfl, S.c 1 1 rfl rfl, S.c 4 0 rfl rfl, S.c 4 1 rfl rfl⟩ (fun hS => ?_)
          clear hKK KK
          try simp only [Act.put, List.setIfInBounds_toArray, List.set_cons_zero, List.set_cons_succ]
          refine wpAnyH_take (i := 4) (v := ?_) ((List.getElem?_toArray ..).trans rfl) (by kernel_rfl) (by kernel_rfl) (by kernel_rfl) (fun _ _ _ h => h) (Or.inl ⟨rfl, fun W hW => ?_⟩) hS ?_
          rotate_left
          · obtain ⟨hW0, hW1, hW2, hW3⟩ := hW; go_simp; try first | rfl | kernel_rfl
          try simp only [Act.put, List.setIfInBounds_toArray, List.set_cons_zero, List.set_cons_succ]
          refine wpAnyH_take (i := 5) (v := ?_) ((List.getElem?_toArray ..).trans rfl) (by kernel_rfl) (by kernel_rfl) (by kernel_rfl) (fun _ _ _ h => h) (Or.inl ⟨rfl, fun W hW => ?_⟩) hS ?_
          rotate_left
          · obtain ⟨hW0, hW1, hW2, hW3⟩ := hW; go_simp; try first | rfl | kernel_rfl
          try simp only [Act.put, List.setIfInBounds_toArray, List.set_cons_zero, List.set_cons_succ]
          refine wpAnyH_take (i := 6) (v := ?_) ((List.getElem?_toArray ..).trans rfl) (by kernel_rfl) (by kernel_rfl) (by kernel_rfl) (fun _ _ _ h => h) (Or.inl ⟨rfl, fun W hW => ?_⟩) hS ?_
          rotate_left
          · obtain ⟨hW0, hW1, hW2, hW3⟩ := hW; go_simp; try first | rfl | kernel_rfl
          try simp only [Act.put, List.setIfInBounds_toArray, List.set_cons_zero, List.set_cons_succ]
          refine wpAnyH_take (i := 7) (v := ?_) ((List.getElem?_toArray ..).trans rfl) (by kernel_rfl) (by kernel_rfl) (by kernel_rfl) (fun _ _ _ h => h) (Or.inl ⟨rfl, fun W hW => ?_⟩) hS ?_
          rotate_left
          · obtain ⟨hW0, hW1, hW2, hW3⟩ := hW; go_simp; try first | rfl | kernel_rfl
          try simp only [Act.put, List.setIfInBounds_toArray, List.set_cons_zero, List.set_cons_succ]
          refine wpAnyH_ready (rs := [8]) (by kernel_rfl) (by simp) (AllReadyH.cons ((List.getElem?_toArray ..).trans rfl) (fun KK hKK => ?_) AllReadyH.nil)
          go_simp
          clear hS
          have H := S.hnew 25 [.bool false, .slice none 0 0]
          replace S := S.alloc 25 [.bool false, .slice none 0 0] (w57.heap.size)
          replace n1 := n1.hold H
          replace n2 := n2.hold H
          replace ng := ng.hold H
          replace nc := nc.hold H
          replace nz := nz.hold H
          replace na := na.hold H
          replace ny := ny.hold H
          replace HH := HH.trans H
          clear H
          refine hKK.out _ _ ⟨S.c 1 0 rfl rfl, S.c 1 1 rfl rfl, S.c 4 0 rfl rfl, S.c 4 1 rfl rfl⟩ (fun hS => ?_)
          generalize (w57.alloc (.cells #[.bool false, .slice none 0 0] 25)) = w58 at S n1 n2 ng nc nz na ny HH hS ⊢
          clear hKK KK
          try simp only [Act.put, List.setIfInBounds_toArray, List.set_cons_zero, List.set_cons_succ]
          refine wpAnyH_ready (rs := [10]) (by kernel_rfl) (by simp) (AllReadyH.cons ((List.getElem?_toArray ..).trans rfl) (fun KK hKK => ?_) AllReadyH.nil)
          have c0 := S.c 8 0 rfl rfl
          have f0 := S.f 8 0 rfl
          have c1 := S.c 8 1 rfl rfl
          have f1 := S.f 8 1 rfl
          go_simp
          clear hS c0 f0 c1 f1
          have H := S.hset 8 0 (.bool (negB y)) rfl rfl (by intro q n e; cases e)
          replace S := S.set 8 0 (.bool (negB y)) rfl
          replace n1 := n1.hold H
          replace n2 := n2.hold H
          replace ng := ng.hold H
          replace nc := nc.hold H
          replace nz := nz.hold H
          replace na := na.hold H
          replace ny := ny.hold H
          replace HH := HH.trans H
          clear H
          have H := S.hset 8 1 (.slice py ly Ky) rfl rfl (by intro q n e; cases e)
          replace S := S.set 8 1 (.slice py ly Ky) rfl
          replace n1 := n1.hold H
          replace n2 := n2.hold H
          replace ng := ng.hold H
          replace nc := nc.hold H
          replace nz := nz.hold H
          replace na := na.hold H
          replace ny := ny.hold H
          replace HH := HH.trans H
          clear H
          refine hKK.out _ _ ⟨S.c 1 0 rfl rfl, S.c 1 1 rfl rfl, S.c 4 0 rfl rfl, S.c 4 1 rfl rfl⟩ (fun hS => ?_)
          generalize ((w58.setCell ⟨w57.heap.size, 0, none⟩ (.bool (negB y))).setCell ⟨w57.heap.size, 1, none⟩ (.slice py ly Ky)) = w59 at S n1 n2 ng nc nz na ny HH hS ⊢
          clear hKK KK
          try simp only [Act.put, List.setIfInBounds_toArray, List.set_cons_zero, List.set_cons_succ]
          refine wpAnyH_ready (rs := [11]) (by kernel_rfl) (by simp) (AllReadyH.cons ((List.getElem?_toArray ..).trans rfl) (fun KK hKK => ?_) AllReadyH.nil)
          have c0 := S.c 7 0 rfl rfl
          have f0 := S.f 7 0 rfl
          have c1 := S.c 7 1 rfl rfl
          have f1 := S.f 7 1 rfl
          go_simp
          clear hS c0 f0 c1 f1
          have H := S.hset 7 0 (.bool (negB yr)) rfl rfl (by intro q n e; cases e)
          replace S := S.set 7 0 (.bool (negB yr)) rfl
          replace n1 := n1.hold H
          replace n2 := n2.hold H
          replace ng := ng.hold H
          replace nc := nc.hold H
          replace nz := nz.hold H
          replace na := na.hold H
          replace ny := ny.hold H
          replace HH := HH.trans H
          clear H
          have H := S.hset 7 1 (.slice pv lv Kv) rfl rfl (by intro q n e; cases e)
          replace S := S.set 7 1 (.slice pv lv Kv) rfl
          replace n1 := n1.hold H
          replace n2 := n2.hold H
          replace ng := ng.hold H
          replace nc := nc.hold H
          replace nz := nz.hold H
          replace na := na.hold H
          replace ny := ny.hold H
          replace HH := HH.trans H
          clear H
          refine hKK.out _ _ ⟨S.c 1 0 rfl rfl, S.c 1 1 rfl rfl, S.c 4 0 rfl rfl, S.c 4 1 rfl rfl⟩ (fun hS => ?_)
          generalize ((w59.setCell ⟨w11.heap.size, 0, none⟩ (.bool (negB yr))).setCell ⟨w11.heap.size, 1, none⟩ (.slice pv lv Kv)) = w60 at S n1 n2 ng nc nz na ny HH hS ⊢
          clear hKK KK
          try simp only [Act.put, List.setIfInBounds_toArray, List.set_cons_zero, List.set_cons_succ]
          refine wpAnyH_ready (rs := [12]) (by kernel_rfl) (by simp) (AllReadyH.cons ((List.getElem?_toArray ..).trans rfl) (fun KK hKK => ?_) AllReadyH.nil)
          go_simp
          refine hKK.out _ _ hS (fun hS => ?_)
          clear hKK KK
          try simp only [Act.put, List.setIfInBounds_toArray, List.set_cons_zero, List.set_cons_succ]
          refine wpAnyH_done (by kernel_rfl) ?_ _
          go_wp2_with fail
          go_meet
          case rel => exact ⟨w57.heap.size, py, ly, Ky, rfl, S.sub (.cons_cons _ (.cons_cons _ (.cons_cons _ (.cons_cons _ (.cons_cons _ (.cons_cons _ (.cons_cons _ (.cons _ (.cons_cons _ (.slnil)))))))))), ny, HH⟩
        ·
          go_simp
          clear hS
          have H := S.hnew 25 [.bool false, .slice none 0 0]
          replace S := S.alloc 25 [.bool false, .slice none 0 0] (w56.heap.size)
          replace n1 := n1.hold H
          replace n2 := n2.hold H
          replace ng := ng.hold H
          replace nc := nc.hold H
          replace nz := nz.hold H
          replace na := na.hold H
          replace HH := HH.trans H
          clear H
          refine hKK.out _ _ ⟨S.c 1 0 rfl rfl, S.c 1 1 rfl rfl, S.c 4 0 rfl rfl, S.c 4 1 rfl rfl⟩ (fun hS => ?_)
          generalize (w56.alloc (.cells #[.bool false, .slice none 0 0] 25)) = w61 at S n1 n2 ng nc nz na HH hS ⊢
          clear hKK KK
          try simp only [Act.put, List.setIfInBounds_toArray, List.set_cons_zero, List.set_cons_succ]
          refine wpAnyH_ready (rs := [3]) (by kernel_rfl) (by simp) (AllReadyH.cons ((List.getElem?_toArray ..).trans rfl) (fun KK hKK => ?_) AllReadyH.nil)
          go_simp
          clear hS
          refine (S.call (wdiv_to ⟨_, _, _, rfl, na⟩ ⟨_, _, _, rfl, nc⟩ HD.out.2.2.2.1 HG.out.2.1 y yr HG.out.2.2 HZ.out.2.2.1 HZ.out.2.2.2)).mono ?_
          clear S
          rintro e w62 ⟨⟨_, _, rfl, ⟨py, ly, Ky, rfl, ny⟩, ⟨pv, lv, Kv, rfl, nv⟩⟩, S, H⟩
          replace n1 := n1.hold H
          replace n2 := n2.hold H
          replace ng := ng.hold H
          replace nc := nc.hold H
          replace nz := nz.hold H
          replace na := na.hold H
          replace HH := HH.trans H
          clear H
          go_wp2_with fail
          refine hKK.out _ _ ⟨S.c 1 0 rfl rfl, S.c 1 1 rfl rfl, S.c 4 0 rfl rfl, S.c 4 1 rfl rfl⟩ (fun hS => ?_)
          clear hKK KK
          try simp only [Act.put, List.setIfInBounds_toArray, List.set_cons_zero, List.set_cons_succ]
          refine wpAnyH_take (i := 4) (v := ?_) ((List.getElem?_toArray ..).trans rfl) (by kernel_rfl) (by kernel_rfl) (by kernel_rfl) (fun _ _ _ h => h) (Or.inl ⟨rfl, fun W hW => ?_⟩) hS ?_
          rotate_left
          · obtain ⟨hW0, hW1, hW2, hW3⟩ := hW; go_simp; try first | rfl | kernel_rfl
          try simp only [Act.put, List.setIfInBounds_toArray, List.set_cons_zero, List.set_cons_succ]
          refine wpAnyH_take (i := 5) (v := ?_) ((List.getElem?_toArray ..).trans rfl) (by kernel_rfl) (by kernel_rfl) (by kernel_rfl) (fun _ _ _ h => h) (Or.inl ⟨rfl, fun W hW => ?_⟩) hS ?_
          rotate_left
          · obtain ⟨hW0, hW1, hW2, hW3⟩ := hW; go_simp; try first | rfl | kernel_rfl
          try simp only [Act.put, List.setIfInBounds_toArray, List.set_cons_zero, List.set_cons_succ]
          refine wpAnyH_take (i := 6) (v := ?_) ((List.getElem?_toArray ..).trans rfl) (by kernel_rfl) (by kernel_rfl) (by kernel_rfl) (fun _ _ _ h => h) (Or.inl ⟨rfl, fun W hW => ?_⟩) hS ?_
          rotate_left
          · obtain ⟨hW0, hW1, hW2, hW3⟩ := hW; go_simp; try first | rfl | kernel_rfl
          try simp only [Act.put, List.setIfInBounds_toArray, List.set_cons_zero, List.set_cons_succ]
          refine wpAnyH_take (i := 7) (v := ?_) ((List.getElem?_toArray ..).trans rfl) (by kernel_rfl) (by kernel_rfl) (by kernel_rfl) (fun _ _ _ h => h) (Or.inl ⟨rfl, fun W hW => ?_⟩) hS ?_
          rotate_left
          · obtain ⟨hW0, hW1, hW2, hW3⟩ := hW; go_simp; try first | rfl | kernel_rfl
          try simp only [Act.put, List.setIfInBounds_toArray, List.set_cons_zero, List.set_cons_succ]
          refine wpAnyH_ready (rs := [10]) (by kernel_rfl) (by simp) (AllReadyH.cons ((List.getElem?_toArray ..).trans rfl) (fun KK hKK => ?_) AllReadyH.nil)
          have c0 := S.c 8 0 rfl rfl
          have f0 := S.f 8 0 rfl
          have c1 := S.c 8 1 rfl rfl
          have f1 := S.f 8 1 rfl
          go_simp
          clear hS c0 f0 c1 f1
          have H := S.hset 8 0 (.bool (negB y)) rfl rfl (by intro q n e; cases e)
          replace S := S.set 8 0 (.bool (negB y)) rfl
          replace n1 := n1.hold H
          replace n2 := n2.hold H
          replace ng := ng.hold H
          replace nc := nc.hold H
          replace nz := nz.hold H
          replace na := na.hold H
          replace ny := ny.hold H
          replace HH := HH.trans H
          clear H
          have H := S.hset 8 1 (.slice py ly Ky) rfl rfl (by intro q n e; cases e)
          replace S := S.set 8 1 (.slice py ly Ky) rfl
          replace n1 := n1.hold H
          replace n2 := n2.hold H
          replace ng := ng.hold H
          replace nc := nc.hold H
          replace nz := nz.hold H
          replace na := na.hold H
          replace ny := ny.hold H
          replace HH := HH.trans H
          clear H
          refine hKK.out _ _ ⟨S.c 1 0 rfl rfl, S.c 1 1 rfl rfl, S.c 4 0 rfl rfl, S.c 4 1 rfl rfl⟩ (fun hS => ?_)
          generalize ((w62.setCell ⟨w56.heap.size, 0, none⟩ (.bool (negB y))).setCell ⟨w56.heap.size, 1, none⟩ (.slice py ly Ky)) = w63 at S n1 n2 ng nc nz na ny HH hS ⊢
          clear hKK KK
          try simp only [Act.put, List.setIfInBounds_toArray, List.set_cons_zero, List.set_cons_succ]
          refine wpAnyH_ready (rs := [11]) (by kernel_rfl) (by simp) (AllReadyH.cons ((List.getElem?_toArray ..).trans rfl) (fun KK hKK => ?_) AllReadyH.nil)
          have c0 := S.c 7 0 rfl rfl
          have f0 := S.f 7 0 rfl
          have c1 := S.c 7 1 rfl rfl
          have f1 := S.f 7 1 rfl
          go_simp
          clear hS c0 f0 c1 f1
          have H := S.hset 7 0 (.bool (negB yr)) rfl rfl (by intro q n e; cases e)
          replace S := S.set 7 0 (.bool (negB yr)) rfl
          replace n1 := n1.hold H
          replace n2 := n2.hold H
          replace ng := ng.hold H
          replace nc := nc.hold H
          replace nz := nz.hold H
          replace na := na.hold H
          replace ny := ny.hold H
          replace HH := HH.trans H
          clear H
          have H := S.hset 7 1 (.slice pv lv Kv) rfl rfl (by intro q n e; cases e)
          replace S := S.set 7 1 (.slice pv lv Kv) rfl
          replace n1 := n1.hold H
          replace n2 := n2.hold H
          replace ng := ng.hold H
          replace nc := nc.hold H
          replace nz := nz.hold H
          replace na := na.hold H
          replace ny := ny.hold H
          replace HH := HH.trans H
          clear H
          refine hKK.out _ _ ⟨S.c 1 0 rfl rfl, S.c 1 1 rfl rfl, S.c 4 0 rfl rfl, S.c 4 1 rfl rfl⟩ (fun hS => ?_)
          generalize ((w63.setCell ⟨w11.heap.size, 0, none⟩ (.bool (negB yr))).setCell ⟨w11.heap.size, 1, none⟩ (.slice pv lv Kv)) = w64 at S n1 n2 ng nc nz na ny HH hS ⊢
          clear hKK KK
          try simp only [Act.put, List.setIfInBounds_toArray, List.set_cons_zero, List.set_cons_succ]
          refine wpAnyH_ready (rs := [12]) (by kernel_rfl) (by simp) (AllReadyH.cons ((List.getElem?_toArray ..).trans rfl) (fun KK hKK => ?_) AllReadyH.nil)
          go_simp
          refine hKK.out _ _ hS (fun hS => ?_)
          clear hKK KK
          try simp only [Act.put, List.setIfInBounds_toArray, List.set_cons_zero, List.set_cons_succ]
          refine wpAnyH_done (by kernel_rfl) ?_ _
          go_wp2_with fail
          go_meet
          case rel => exact ⟨w56.heap.size, py, ly, Ky, rfl, S.sub (.cons_cons _ (.cons_cons _ (.cons_cons _ (.cons_cons _ (.cons_cons _ (.cons_cons _ (.cons_cons _ (.cons _ (.cons_cons _ (.slnil)))))))))), ny, HH⟩
      ·
        go_simp
        clear hS
        have H := S.hnew 25 [.bool false, .slice none 0 0]
        replace S := S.alloc 25 [.bool false, .slice none 0 0] (w55.heap.size)
        replace n1 := n1.hold H
        replace n2 := n2.hold H
        replace ng := ng.hold H
        replace nc := nc.hold H
        replace nz := nz.hold H
        replace HH := HH.trans H
        clear H
        refine hKK.out _ _ ⟨S.c 1 0 rfl rfl, S.c 1 1 rfl rfl, S.c 4 0 rfl rfl, S.c 4 1 rfl rfl⟩ (fun hS => ?_)
        generalize (w55.alloc (.cells #[.bool false, .slice none 0 0] 25)) = w65 at S n1 n2 ng nc nz HH hS ⊢
        clear hKK KK
        try simp only [Act.put, List.setIfInBounds_toArray, List.set_cons_zero, List.set_cons_succ]
        refine wpAnyH_ready (rs := [1]) (by kernel_rfl) (by simp) (AllReadyH.cons ((List.getElem?_toArray ..).trans rfl) (fun KK hKK => ?_) AllReadyH.nil)
        go_simp
        clear hS
        refine (S.call (wabs_any ⟨_, _, _, by rw [HD.out.2.1], n2⟩ HD.out.2.2.2.1 ((d.natAbs : Nat) : Int) rfl)).mono ?_
        clear S
        rintro e w66 ⟨⟨_, rfl, pa, la, Ka, rfl, na⟩, S, H⟩
        replace n1 := n1.hold H
        replace n2 := n2.hold H
        replace ng := ng.hold H
        replace nc := nc.hold H
        replace nz := nz.hold H
        replace HH := HH.trans H
        clear H
        go_wp2_with fail
        refine hKK.out _ _ ⟨S.c 1 0 rfl rfl, S.c 1 1 rfl rfl, S.c 4 0 rfl rfl, S.c 4 1 rfl rfl⟩ (fun hS => ?_)
        clear hKK KK
        try simp only [Act.put, List.setIfInBounds_toArray, List.set_cons_zero, List.set_cons_succ]
        refine wpAnyH_ready (rs := [3]) (by kernel_rfl) (by simp) (AllReadyH.cons ((List.getElem?_toArray ..).trans rfl) (fun KK hKK => ?_) AllReadyH.nil)
        go_simp
        clear hS
        refine (S.call (wdiv_to ⟨_, _, _, rfl, na⟩ ⟨_, _, _, rfl, nc⟩ HD.out.2.2.2.1 HG.out.2.1 y yr HG.out.2.2 HZ.out.2.2.1 HZ.out.2.2.2)).mono ?_
        clear S
        rintro e w67 ⟨⟨_, _, rfl, ⟨py, ly, Ky, rfl, ny⟩, ⟨pv, lv, Kv, rfl, nv⟩⟩, S, H⟩
        replace n1 := n1.hold H
        replace n2 := n2.hold H
        replace ng := ng.hold H
        replace nc := nc.hold H
        replace nz := nz.hold H
        replace na := na.hold H
        replace HH := HH.trans H
        clear H
        go_wp2_with fail
        refine hKK.out _ _ ⟨S.c 1 0 rfl rfl, S.c 1 1 rfl rfl, S.c 4 0 rfl rfl, S.c 4 1 rfl rfl⟩ (fun hS => ?_)
        clear hKK KK
        try simp only [Act.put, List.setIfInBounds_toArray, List.set_cons_zero, List.set_cons_succ]
        refine wpAnyH_take (i := 4) (v := ?_) ((List.getElem?_toArray ..).trans rfl) (by kernel_rfl) (by kernel_rfl) (by kernel_rfl) (fun _ _ _ h => h) (Or.inl ⟨rfl, fun W hW => ?_⟩) hS ?_
        rotate_left
        · obtain ⟨hW0, hW1, hW2, hW3⟩ := hW; go_simp; try first | rfl | kernel_rfl
        try simp only [Act.put, List.setIfInBounds_toArray, List.set_cons_zero, List.set_cons_succ]
        refine wpAnyH_take (i := 5) (v := ?_) ((List.getElem?_toArray ..).trans rfl) (by kernel_rfl) (by kernel_rfl) (by kernel_rfl) (fun _ _ _ h => h) (Or.inl ⟨rfl, fun W hW => ?_⟩) hS ?_
        rotate_left
        · obtain ⟨hW0, hW1, hW2, hW3⟩ := hW; go_simp; try first | rfl | kernel_rfl
        try simp only [Act.put, List.setIfInBounds_toArray, List.set_cons_zero, List.set_cons_succ]
        refine wpAnyH_take (i := 6) (v := ?_) ((List.getElem?_toArray ..).trans rfl) (by kernel_rfl) (by kernel_rfl) (by kernel_rfl) (fun _ _ _ h => h) (Or.inl ⟨rfl, fun W hW => ?_⟩) hS ?_
        rotate_left
        · obtain ⟨hW0, hW1, hW2, hW3⟩ := hW; go_simp; try first | rfl | kernel_rfl
        try simp only [Act.put, List.setIfInBounds_toArray, List.set_cons_zero, List.set_cons_succ]
        refine wpAnyH_take (i := 7) (v := ?_) ((List.getElem?_toArray ..).trans rfl) (by kernel_rfl) (by kernel_rfl) (by kernel_rfl) (fun _ _ _ h => h) (Or.inl ⟨rfl, fun W hW => ?_⟩) hS ?_
        rotate_left
        · obtain ⟨hW0, hW1, hW2, hW3⟩ := hW; go_simp; try first | rfl | kernel_rfl
        try simp only [Act.put, List.setIfInBounds_toArray, List.set_cons_zero, List.set_cons_succ]
        refine wpAnyH_ready (rs := [10]) (by kernel_rfl) (by simp) (AllReadyH.cons ((List.getElem?_toArray ..).trans rfl) (fun KK hKK => ?_) AllReadyH.nil)
        have c0 := S.c 8 0 rfl rfl
        have f0 := S.f 8 0 rfl
        have c1 := S.c 8 1 rfl rfl
        have f1 := S.f 8 1 rfl
        go_simp
        clear hS c0 f0 c1 f1
        have H := S.hset 8 0 (.bool (negB y)) rfl rfl (by intro q n e; cases e)
        replace S := S.set 8 0 (.bool (negB y)) rfl
        replace n1 := n1.hold H
        replace n2 := n2.hold H
        replace ng := ng.hold H
        replace nc := nc.hold H
        replace nz := nz.hold H
        replace na := na.hold H
        replace ny := ny.hold H
        replace HH := HH.trans H
        clear H
        have H := S.hset 8 1 (.slice py ly Ky) rfl rfl (by intro q n e; cases e)
        replace S := S.set 8 1 (.slice py ly Ky) rfl
        replace n1 := n1.hold H
        replace n2 := n2.hold H
        replace ng := ng.hold H
        replace nc := nc.hold H
        replace nz := nz.hold H
        replace na := na.hold H
        replace ny := ny.hold H
        replace HH := HH.trans H
        clear H
        refine hKK.out _ _ ⟨S.c 1 0 rfl rfl, S.c 1 1 rfl rfl, S.c 4 0 rfl rfl, S.c 4 1 rfl rfl⟩ (fun hS => ?_)
        generalize ((w67.setCell ⟨w55.heap.size, 0, none⟩ (.bool (negB y))).setCell ⟨w55.heap.size, 1, none⟩ (.slice py ly Ky)) = w68 at S n1 n2 ng nc nz na ny HH hS ⊢
        clear hKK KK
        try simp only [Act.put, List.setIfInBounds_toArray, List.set_cons_zero, List.set_cons_succ]
        refine wpAnyH_ready (rs := [11]) (by kernel_rfl) (by simp) (AllReadyH.cons ((List.getElem?_toArray ..).trans rfl) (fun KK hKK => ?_) AllReadyH.nil)
        have c0 := S.c 7 0 rfl rfl
        have f0 := S.f 7 0 rfl
        have c1 := S.c 7 1 rfl rfl
        have f1 := S.f 7 1 rfl
        go_simp
        clear hS c0 f0 c1 f1
        have H := S.hset 7 0 (.bool (negB yr)) rfl rfl (by intro q n e; cases e)
        replace S := S.set 7 0 (.bool (negB yr)) rfl
        replace n1 := n1.hold H
        replace n2 := n2.hold H
        replace ng := ng.hold H
        replace nc := nc.hold H
        replace nz := nz.hold H
        replace na := na.hold H
        replace ny := ny.hold H
        replace HH := HH.trans H
        clear H
        have H := S.hset 7 1 (.slice pv lv Kv) rfl rfl (by intro q n e; cases e)
        replace S := S.set 7 1 (.slice pv lv Kv) rfl
        replace n1 := n1.hold H
        replace n2 := n2.hold H
        replace ng := ng.hold H
        replace nc := nc.hold H
        replace nz := nz.hold H
        replace na := na.hold H
        replace ny := ny.hold H
        replace HH := HH.trans H
        clear H
        refine hKK.out _ _ ⟨S.c 1 0 rfl rfl, S.c 1 1 rfl rfl, S.c 4 0 rfl rfl, S.c 4 1 rfl rfl⟩ (fun hS => ?_)
        generalize ((w68.setCell ⟨w11.heap.size, 0, none⟩ (.bool (negB yr))).setCell ⟨w11.heap.size, 1, none⟩ (.slice pv lv Kv)) = w69 at S n1 n2 ng nc nz na ny HH hS ⊢
        clear hKK KK
        try simp only [Act.put, List.setIfInBounds_toArray, List.set_cons_zero, List.set_cons_succ]
        refine wpAnyH_ready (rs := [12]) (by kernel_rfl) (by simp) (AllReadyH.cons ((List.getElem?_toArray ..).trans rfl) (fun KK hKK => ?_) AllReadyH.nil)
        go_simp
        refine hKK.out _ _ hS (fun hS => ?_)
        clear hKK KK
        try simp only [Act.put, List.setIfInBounds_toArray, List.set_cons_zero, List.set_cons_succ]
        refine wpAnyH_done (by kernel_rfl) ?_ _
        go_wp2_with fail
        go_meet
        case rel => exact ⟨w55.heap.size, py, ly, Ky, rfl, S.sub (.cons_cons _ (.cons_cons _ (.cons_cons _ (.cons_cons _ (.cons_cons _ (.cons_cons _ (.cons_cons _ (.cons _ (.cons_cons _ (.slnil)))))))))), ny, HH⟩
  case rest =>
    obtain ⟨g11, py, ly, Ky, rfl, S, ny, HH⟩ := hcut
    obtain ⟨w70, rfl⟩ : ∃ W : World, W = wc := ⟨_, rfl⟩
    replace n1 := n1.hold HH
    replace n2 := n2.hold HH
    replace ng := ng.hold HH
    replace nc := nc.hold HH
    replace nz := nz.hold HH
    clear HH
    cases b2 with
    | false =>
      have HN := Lib.hid (HQ.out.2.2.1 rfl)
      have c0_0 := S.c 0 0 rfl rfl
      have c0_1 := S.c 0 1 rfl rfl
      have c1_0 := S.c 1 0 rfl rfl
      have c1_1 := S.c 1 1 rfl rfl
      have c2_0 := S.c 2 0 rfl rfl
      have c2_1 := S.c 2 1 rfl rfl
      have c2_2 := S.c 2 2 rfl rfl
      have c4_0 := S.c 4 0 rfl rfl
      have c4_1 := S.c 4 1 rfl rfl
      have c5_0 := S.c 5 0 rfl rfl
      have c5_1 := S.c 5 1 rfl rfl
      have c7_0 := S.c 7 0 rfl rfl
      have c7_1 := S.c 7 1 rfl rfl
      have f2_0 := S.f 2 0 rfl
      have H := S.hset 2 0 (.bool (negB z)) rfl rfl (by intro q n e; cases e)
      replace S := S.set 2 0 (.bool (negB z)) rfl
      replace n1 := n1.hold H
      replace n2 := n2.hold H
      replace ng := ng.hold H
      replace nc := nc.hold H
      replace nz := nz.hold H
      replace ny := ny.hold H
      clear H
      have f2_1 := S.f 2 1 rfl
      have H := S.hset 2 1 (.slice pz lz Kz) rfl rfl (by intro q n e; cases e)
      replace S := S.set 2 1 (.slice pz lz Kz) rfl
      replace n1 := n1.hold H
      replace n2 := n2.hold H
      replace ng := ng.hold H
      replace nc := nc.hold H
      replace nz := nz.hold H
      replace ny := ny.hold H
      clear H
      have f2_2 := S.f 2 2 rfl
      have H := S.hset 2 2 (.slice py ly Ky) rfl rfl (by intro q n e; cases e)
      replace S := S.set 2 2 (.slice py ly Ky) rfl
      replace n1 := n1.hold H
      replace n2 := n2.hold H
      replace ng := ng.hold H
      replace nc := nc.hold H
      replace nz := nz.hold H
      replace ny := ny.hold H
      clear H
      go_wp2_with fail
      have d2_0 := S.c 2 0 rfl rfl
      have d2_1 := S.c 2 1 rfl rfl
      have d2_2 := S.c 2 2 rfl rfl
      exact bodyPost_ret (v := .tuple #[.agg #[.bool (negB z), .slice pz lz Kz, .slice py ly Ky], .int .i64 0]) (by simp [results, Tryz.f51, go_sem, d2_0, d2_1, d2_2]) rfl (⟨⟨_, rfl, negB z, pz, lz, Kz, py, ly, Ky, rfl, by rw [HN.out]; rfl, by rw [HN.out]; exact nz, by rw [← HQ.out.1]; exact ny⟩, S.below⟩)
    | true =>
      have HN := Lib.hid (HQ.out.2.2.2 rfl)
      have c0_0 := S.c 0 0 rfl rfl
      have c0_1 := S.c 0 1 rfl rfl
      have c1_0 := S.c 1 0 rfl rfl
      have c1_1 := S.c 1 1 rfl rfl
      have c2_0 := S.c 2 0 rfl rfl
      have c2_1 := S.c 2 1 rfl rfl
      have c2_2 := S.c 2 2 rfl rfl
      have c4_0 := S.c 4 0 rfl rfl
      have c4_1 := S.c 4 1 rfl rfl
      have c5_0 := S.c 5 0 rfl rfl
      have c5_1 := S.c 5 1 rfl rfl
      have c7_0 := S.c 7 0 rfl rfl
      have c7_1 := S.c 7 1 rfl rfl
      go_wp2_with fail
      clear c0_0 c0_1 c1_0 c1_1 c2_0 c2_1 c2_2 c4_0 c4_1 c5_0 c5_1 c7_0 c7_1
      refine (S.call (wneg_to ⟨_, _, _, rfl, nz⟩ HQ.out.2.1 (-z) rfl)).mono ?_
      clear S
      rintro e w71 ⟨⟨_, rfl, pw, lw, Kw, rfl, nw⟩, S, H⟩
      replace n1 := n1.hold H
      replace n2 := n2.hold H
      replace ng := ng.hold H
      replace nc := nc.hold H
      replace nz := nz.hold H
      replace ny := ny.hold H
      clear H
      have c0_0 := S.c 0 0 rfl rfl
      have c0_1 := S.c 0 1 rfl rfl
      have c1_0 := S.c 1 0 rfl rfl
      have c1_1 := S.c 1 1 rfl rfl
      have c2_0 := S.c 2 0 rfl rfl
      have c2_1 := S.c 2 1 rfl rfl
      have c2_2 := S.c 2 2 rfl rfl
      have c4_0 := S.c 4 0 rfl rfl
      have c4_1 := S.c 4 1 rfl rfl
      have c5_0 := S.c 5 0 rfl rfl
      have c5_1 := S.c 5 1 rfl rfl
      have c7_0 := S.c 7 0 rfl rfl
      have c7_1 := S.c 7 1 rfl rfl
      have f5_0 := S.f 5 0 rfl
      have H := S.hset 5 0 (.bool (negB (-z))) rfl rfl (by intro q n e; cases e)
      replace S := S.set 5 0 (.bool (negB (-z))) rfl
      replace n1 := n1.hold H
      replace n2 := n2.hold H
      replace ng := ng.hold H
      replace nc := nc.hold H
      replace nz := nz.hold H
      replace ny := ny.hold H
      replace nw := nw.hold H
      clear H
      have f5_1 := S.f 5 1 rfl
      have H := S.hset 5 1 (.slice pw lw Kw) rfl rfl (by intro q n e; cases e)
      replace S := S.set 5 1 (.slice pw lw Kw) rfl
      replace n1 := n1.hold H
      replace n2 := n2.hold H
      replace ng := ng.hold H
      replace nc := nc.hold H
      replace nz := nz.hold H
      replace ny := ny.hold H
      replace nw := nw.hold H
      clear H
      have c5_0 := S.c 5 0 rfl rfl
      have c5_1 := S.c 5 1 rfl rfl
      have c7_1 := S.c 7 1 rfl rfl
      have c2_0 := S.c 2 0 rfl rfl
      have c2_1 := S.c 2 1 rfl rfl
      have c2_2 := S.c 2 2 rfl rfl
      have f2_0 := S.f 2 0 rfl
      have H := S.hset 2 0 (.bool (negB (-z))) rfl rfl (by intro q n e; cases e)
      replace S := S.set 2 0 (.bool (negB (-z))) rfl
      replace n1 := n1.hold H
      replace n2 := n2.hold H
      replace ng := ng.hold H
      replace nc := nc.hold H
      replace nz := nz.hold H
      replace ny := ny.hold H
      replace nw := nw.hold H
      clear H
      have f2_1 := S.f 2 1 rfl
      have H := S.hset 2 1 (.slice pw lw Kw) rfl rfl (by intro q n e; cases e)
      replace S := S.set 2 1 (.slice pw lw Kw) rfl
      replace n1 := n1.hold H
      replace n2 := n2.hold H
      replace ng := ng.hold H
      replace nc := nc.hold H
      replace nz := nz.hold H
      replace ny := ny.hold H
      replace nw := nw.hold H
      clear H
      have f2_2 := S.f 2 2 rfl
      have H := S.hset 2 2 (.slice py ly Ky) rfl rfl (by intro q n e; cases e)
      replace S := S.set 2 2 (.slice py ly Ky) rfl
      replace n1 := n1.hold H
      replace n2 := n2.hold H
      replace ng := ng.hold H
      replace nc := nc.hold H
      replace nz := nz.hold H
      replace ny := ny.hold H
      replace nw := nw.hold H
      clear H
      go_wp2_with fail
      have d2_0 := S.c 2 0 rfl rfl
      have d2_1 := S.c 2 1 rfl rfl
      have d2_2 := S.c 2 2 rfl rfl
      exact bodyPost_ret (v := .tuple #[.agg #[.bool (negB (-z)), .slice pw lw Kw, .slice py ly Ky], .int .i64 0]) (by simp [results, Tryz.f51, go_sem, d2_0, d2_1, d2_2]) rfl (⟨⟨_, rfl, negB (-z), pw, lw, Kw, py, ly, Ky, rfl, by rw [HN.out]; rfl, by rw [HN.out]; exact nw, by rw [← HQ.out.1]; exact ny⟩, S.below⟩)

end Go.Proofs.YtggnjlbnfgjgdaaGreat

namespace Go.Proofs.YtggnjlbnfgjgdaaGreat
open Go.RowKit

theorem divInt_le (n d : Int) (h : d ≠ 0) : (Rat.divInt n d).num.natAbs ≤ n.natAbs ∧ (Rat.divInt n d).den ≤ d.natAbs := by
  obtain ⟨h1, h2, h3, h4⟩ := make_parts n d h
  refine ⟨?_, by rw [h2]; exact Nat.div_le_self _ _⟩
  rcases (show 0 < d ∨ d < 0 by omega) with h0 | h0
  · rw [h3 h0]; exact Int.natAbs_ediv_le_natAbs _ _
  · rw [h4 h0, Int.natAbs_neg]; exact Int.natAbs_ediv_le_natAbs _ _
theorem rb_divInt {n d : Int} {k : Nat} (h : d ≠ 0) (hn : n.natAbs < NB k) (hd : d.natAbs < NB k) : RB (Rat.divInt n d) k :=
  ⟨Nat.lt_of_le_of_lt (divInt_le n d h).1 hn, Nat.lt_of_le_of_lt (divInt_le n d h).2 hd⟩
theorem den_ne (x : Rat) : ((x.den : Nat) : Int) ≠ 0 := by have := x.den_nz; omega
theorem add_divInt (x y : Rat) : x + y = Rat.divInt (x.num * y.den + y.num * x.den) ((x.den * y.den : Nat) : Int) := by rw [Rat.add_def', Rat.divInt_ofNat]
theorem mul_divInt (x y : Rat) : x * y = Rat.divInt (x.num * y.num) ((x.den * y.den : Nat) : Int) := by rw [Rat.mul_def', Rat.divInt_ofNat]
theorem div_divInt (x y : Rat) : x / y = Rat.divInt (x.num * y.den) (y.num * x.den) := by
  rw [Rat.div_def, Rat.inv_def]
  conv => lhs; rw [← Rat.num_divInt_den x]
  rw [Rat.divInt_mul_divInt, Int.mul_comm y.num]
theorem rbz {x y : Rat} {a b : Nat} (h : RB x a) (k : RB y b) : (x.num * y.den).natAbs < NB (a + b) ∧ (y.num * x.den).natAbs < NB (a + b) ∧ x.den * y.den < NB (a + b) ∧ (x.num * y.num).natAbs < NB (a + b) := by
  refine ⟨nbz_mul h.1 k.2, ?_, nb_mul h.2 k.2, nbz_mul h.1 k.1⟩
  rw [Nat.add_comm]
  exact nbz_mul k.1 h.2
theorem rb_add {x y : Rat} {a b : Nat} (h : RB x a) (k : RB y b) : RB (x + y) (a + b + 1) := by
  obtain ⟨h1, h2, h3, _⟩ := rbz h k
  rw [add_divInt]
  refine rb_divInt (by have := Nat.mul_pos x.den_pos y.den_pos; omega) (nbz_add h1 h2) (nb_mono h3 (by omega))
theorem rb_mul {x y : Rat} {a b : Nat} (h : RB x a) (k : RB y b) : RB (x * y) (a + b) := by
  obtain ⟨_, _, h3, h4⟩ := rbz h k
  rw [mul_divInt]
  exact rb_divInt (by have := Nat.mul_pos x.den_pos y.den_pos; omega) h4 h3
theorem rb_neg {x : Rat} {a : Nat} (h : RB x a) : RB (-x) a := ⟨by rw [Rat.neg_num, Int.natAbs_neg]; exact h.1, h.2⟩
theorem rb_sub {x y : Rat} {a b : Nat} (h : RB x a) (k : RB y b) : RB (x - y) (a + b + 1) := by
  rw [Rat.sub_eq_add_neg]
  exact rb_add h (rb_neg k)
theorem num_ne {y : Rat} (h : y ≠ 0) : y.num ≠ 0 := fun e => h (Rat.num_eq_zero.1 e)
theorem rb_div {x y : Rat} {a b : Nat} (h : RB x a) (k : RB y b) (h0 : y ≠ 0) : RB (x / y) (a + b) := by
  obtain ⟨h1, h2, _, _⟩ := rbz h k
  rw [div_divInt]
  exact rb_divInt (fun e => by rcases Int.mul_eq_zero.1 e with e | e; exact num_ne h0 e; exact den_ne x e) h1 h2
theorem rb_max {x : Rat} {a : Nat} (h : RB x a) (hk : a ≤ 512) : x.num.natAbs < maxN ∧ x.den < maxN := ⟨nb_max h.1 hk, nb_max h.2 hk⟩

end Go.Proofs.YtggnjlbnfgjgdaaGreat

namespace Go.Proofs.YtggnjlbnfgjgdaaGreat
open Go.RowKit

set_option maxRecDepth 100000 in
set_option maxHeartbeats 2000000 in
theorem over_any {va vb : Value} {n d : Int} {w : World} (ha : IsInt w va n) (hb : IsInt w vb d) (hn : n.natAbs < maxN) (hd : d.natAbs < maxN) (h0 : d ≠ 0) (q : Rat) (hq : q = Rat.divInt n d) :
    Calls Tryz.prog 55 #[va, vb, .int .i64 0] w fun e w' => (∃ u, e = .returned (.tuple #[u, .int .i64 0]) ∧ IsRat w' u q) ∧ Below w.heap.size w w' := by
  obtain ⟨p1, l1, K1, rfl, n1⟩ := ha
  obtain ⟨p2, l2, K2, rfl, n2⟩ := hb
  obtain ⟨b1, hb1⟩ : ∃ b1, negB n = b1 := ⟨_, rfl⟩
  obtain ⟨b2, hb2⟩ : ∃ b2, negB d = b2 := ⟨_, rfl⟩
  rw [hb1, hb2]
  have HD := Lib.hid (And.intro hb1 (And.intro hb2 (And.intro hn (And.intro hd (And.intro h0 hq)))))
  clear hb1 hb2 hn hd h0 hq
  have S := (((St.start w).alloc 25 [.bool b1, .slice p1 l1 K1] (w.heap.size)).alloc 25 [.bool b2, .slice p2 l2 K2] (w.heap.size + 1)).alloc 27 [.bool false, .slice none 0 0, .slice none 0 0] (w.heap.size + 1 + 1)
  try simp only [List.cons_append, List.nil_append] at S
  replace n1 := n1.hold S.hold
  replace n2 := n2.hold S.hold
  have c0_0 := S.c 0 0 rfl rfl
  have c0_1 := S.c 0 1 rfl rfl
  have c1_0 := S.c 1 0 rfl rfl
  have c1_1 := S.c 1 1 rfl rfl
  have c2_0 := S.c 2 0 rfl rfl
  have c2_1 := S.c 2 1 rfl rfl
  have c2_2 := S.c 2 2 rfl rfl
  go_enter Tryz.func55, Tryz.ntmps55
  go_wp2_with fail
  clear c0_0 c0_1 c1_0 c1_1 c2_0 c2_1 c2_2
  refine (S.call (rmake_any ⟨_, _, _, by rw [HD.out.1], n1⟩ ⟨_, _, _, by rw [HD.out.2.1], n2⟩ HD.out.2.2.1 HD.out.2.2.2.1 HD.out.2.2.2.2.1 q HD.out.2.2.2.2.2)).mono ?_
  clear S
  rintro e w1 ⟨⟨_, rfl, b, p, l, K, q', j, J, rfl, hb, nn, dd⟩, S, H⟩
  replace n1 := n1.hold H
  replace n2 := n2.hold H
  clear H
  have c0_0 := S.c 0 0 rfl rfl
  have c0_1 := S.c 0 1 rfl rfl
  have c1_0 := S.c 1 0 rfl rfl
  have c1_1 := S.c 1 1 rfl rfl
  have c2_0 := S.c 2 0 rfl rfl
  have c2_1 := S.c 2 1 rfl rfl
  have c2_2 := S.c 2 2 rfl rfl
  have f2_0 := S.f 2 0 rfl
  have H := S.hset 2 0 (.bool b) rfl rfl (by intro q n e; cases e)
  replace S := S.set 2 0 (.bool b) rfl
  replace n1 := n1.hold H
  replace n2 := n2.hold H
  replace nn := nn.hold H
  replace dd := dd.hold H
  clear H
  have f2_1 := S.f 2 1 rfl
  have H := S.hset 2 1 (.slice p l K) rfl rfl (by intro q n e; cases e)
  replace S := S.set 2 1 (.slice p l K) rfl
  replace n1 := n1.hold H
  replace n2 := n2.hold H
  replace nn := nn.hold H
  replace dd := dd.hold H
  clear H
  have f2_2 := S.f 2 2 rfl
  have H := S.hset 2 2 (.slice q' j J) rfl rfl (by intro q n e; cases e)
  replace S := S.set 2 2 (.slice q' j J) rfl
  replace n1 := n1.hold H
  replace n2 := n2.hold H
  replace nn := nn.hold H
  replace dd := dd.hold H
  clear H
  go_wp2_with fail
  have d2_0 := S.c 2 0 rfl rfl
  have d2_1 := S.c 2 1 rfl rfl
  have d2_2 := S.c 2 2 rfl rfl
  exact bodyPost_ret (v := .tuple #[.agg #[.bool b, .slice p l K, .slice q' j J], .int .i64 0]) (by simp [results, Tryz.f55, go_sem, d2_0, d2_1, d2_2]) rfl (⟨⟨_, rfl, b, p, l, K, q', j, J, rfl, hb, nn, dd⟩, S.below⟩)

end Go.Proofs.YtggnjlbnfgjgdaaGreat

namespace Go.Proofs.YtggnjlbnfgjgdaaGreat
open Go.RowKit

set_option maxRecDepth 100000 in
set_option maxHeartbeats 4000000 in
theorem radd_any {va vb : Value} {x y : Rat} {w : World} (ha : IsRat w va x) (hb : IsRat w vb y) {k1 k2 : Nat} (hx : RB x k1) (hy : RB y k2) (hk : k1 + k2 ≤ 511) (q : Rat) (hq : x + y = q) :
    Calls Tryz.prog 18 #[va, vb] w fun e w' => (∃ u, e = .returned (.tuple #[u, .int .i64 0]) ∧ IsRat w' u q) ∧ Below w.heap.size w w' := by
  obtain ⟨b1, p1, l1, K1, q1, j1, J1, rfl, hb1, n1, d1⟩ := ha
  obtain ⟨b2, p2, l2, K2, q2, j2, J2, rfl, hb2, n2, d2⟩ := hb
  obtain ⟨X, hX⟩ : ∃ X, x.num * y.den = X := ⟨_, rfl⟩
  obtain ⟨Y, hY⟩ : ∃ Y, y.num * x.den = Y := ⟨_, rfl⟩
  obtain ⟨Z, hZ⟩ : ∃ Z, X + Y = Z := ⟨_, rfl⟩
  obtain ⟨D, hD⟩ : ∃ D, ((x.den * y.den : Nat) : Int) = D := ⟨_, rfl⟩
  have hb := rbz hx hy
  rw [hX, hY] at hb
  have hZb : Z.natAbs < NB (k1 + k2 + 1) := hZ ▸ nbz_add hb.1 hb.2.1
  have hD0 : D ≠ 0 := by rw [← hD]; have := Nat.mul_pos x.den_pos y.den_pos; omega
  have hDb : D.natAbs < maxN := by rw [← hD, Int.natAbs_natCast]; exact nb_max hb.2.2.1 (by omega)
  have hdd : (x.den : Int) * (y.den : Int) = D := by rw [← hD, Int.natCast_mul]
  have hq2 : q = Rat.divInt Z D := by rw [← hq, add_divInt, hX, hY, hZ, hD]
  have HX := Lib.hid (And.intro (rb_max hx (by omega)) (rb_max hy (by omega)))
  have HD := Lib.hid (And.intro hX (And.intro hY (And.intro hZ (And.intro hdd (And.intro hq2 hD0)))))
  have HB := Lib.hid (And.intro (nb_max hb.1 (by omega)) (And.intro (nb_max hb.2.1 (by omega)) (And.intro (nb_max hZb (by omega)) hDb)))
  clear hX hY hZ hD hb hZb hD0 hDb hdd hq hq2 hx hy hk
  have S := (((St.start w).alloc 27 [.bool b1, .slice p1 l1 K1, .slice q1 j1 J1] (w.heap.size)).alloc 27 [.bool b2, .slice p2 l2 K2, .slice q2 j2 J2] (w.heap.size + 1)).alloc 27 [.bool false, .slice none 0 0, .slice none 0 0] (w.heap.size + 1 + 1)
  try simp only [List.cons_append, List.nil_append] at S
  replace n1 := n1.hold S.hold
  replace d1 := d1.hold S.hold
  replace n2 := n2.hold S.hold
  replace d2 := d2.hold S.hold
  have c0_0 := S.c 0 0 rfl rfl
  have c0_1 := S.c 0 1 rfl rfl
  have c0_2 := S.c 0 2 rfl rfl
  have c1_0 := S.c 1 0 rfl rfl
  have c1_1 := S.c 1 1 rfl rfl
  have c1_2 := S.c 1 2 rfl rfl
  have c2_0 := S.c 2 0 rfl rfl
  have c2_1 := S.c 2 1 rfl rfl
  have c2_2 := S.c 2 2 rfl rfl
  go_enter Tryz.func18, Tryz.ntmps18
  go_wp2_with fail
  clear c0_0 c0_1 c0_2 c1_0 c1_1 c1_2 c2_0 c2_1 c2_2
  refine (S.call (cross_any ⟨b1, p1, l1, K1, q1, j1, J1, rfl, hb1, n1, d1⟩ ⟨b2, p2, l2, K2, q2, j2, J2, rfl, hb2, n2, d2⟩ HX.out.1.1 HX.out.1.2 HX.out.2.1 HX.out.2.2 X Y HD.out.1 HD.out.2.1 HB.out.1 HB.out.2.1)).mono ?_
  clear S
  rintro e w1 ⟨⟨_, _, rfl, ⟨px, lx, Kx, rfl, nx⟩, ⟨py, ly, Ky, rfl, ny⟩⟩, S, H⟩
  replace n1 := n1.hold H
  replace d1 := d1.hold H
  replace n2 := n2.hold H
  replace d2 := d2.hold H
  clear H
  have c0_0 := S.c 0 0 rfl rfl
  have c0_1 := S.c 0 1 rfl rfl
  have c0_2 := S.c 0 2 rfl rfl
  have c1_0 := S.c 1 0 rfl rfl
  have c1_1 := S.c 1 1 rfl rfl
  have c1_2 := S.c 1 2 rfl rfl
  have c2_0 := S.c 2 0 rfl rfl
  have c2_1 := S.c 2 1 rfl rfl
  have c2_2 := S.c 2 2 rfl rfl
  have H := S.hnew 25 [.bool (negB X), .slice px lx Kx]
  replace S := S.alloc 25 [.bool (negB X), .slice px lx Kx] (w1.heap.size)
  try simp only [List.cons_append, List.nil_append] at S
  replace n1 := n1.hold H
  replace d1 := d1.hold H
  replace n2 := n2.hold H
  replace d2 := d2.hold H
  replace nx := nx.hold H
  replace ny := ny.hold H
  clear H
  have H := S.hnew 25 [.bool (negB Y), .slice py ly Ky]
  replace S := S.alloc 25 [.bool (negB Y), .slice py ly Ky] (w1.heap.size + 1)
  try simp only [List.cons_append, List.nil_append] at S
  replace n1 := n1.hold H
  replace d1 := d1.hold H
  replace n2 := n2.hold H
  replace d2 := d2.hold H
  replace nx := nx.hold H
  replace ny := ny.hold H
  clear H
  clear c0_0 c0_1 c0_2 c1_0 c1_1 c1_2 c2_0 c2_1 c2_2
  have c0_0 := S.c 0 0 rfl rfl
  have c0_1 := S.c 0 1 rfl rfl
  have c0_2 := S.c 0 2 rfl rfl
  have c1_0 := S.c 1 0 rfl rfl
  have c1_1 := S.c 1 1 rfl rfl
  have c1_2 := S.c 1 2 rfl rfl
  have c2_0 := S.c 2 0 rfl rfl
  have c2_1 := S.c 2 1 rfl rfl
  have c2_2 := S.c 2 2 rfl rfl
  have c3_0 := S.c 3 0 rfl rfl
  have c3_1 := S.c 3 1 rfl rfl
  have c4_0 := S.c 4 0 rfl rfl
  have c4_1 := S.c 4 1 rfl rfl
  go_wp2_with fail
  clear c0_0 c0_1 c0_2 c1_0 c1_1 c1_2 c2_0 c2_1 c2_2 c3_0 c3_1 c4_0 c4_1
  refine (S.call (wadd_to ⟨_, _, _, rfl, nx⟩ ⟨_, _, _, rfl, ny⟩ HB.out.1 HB.out.2.1 Z HD.out.2.2.1 HB.out.2.2.1)).mono ?_
  clear S
  rintro e w2 ⟨⟨_, rfl, pz, lz, Kz, rfl, nz⟩, S, H⟩
  replace n1 := n1.hold H
  replace d1 := d1.hold H
  replace n2 := n2.hold H
  replace d2 := d2.hold H
  replace nx := nx.hold H
  replace ny := ny.hold H
  clear H
  have c0_0 := S.c 0 0 rfl rfl
  have c0_1 := S.c 0 1 rfl rfl
  have c0_2 := S.c 0 2 rfl rfl
  have c1_0 := S.c 1 0 rfl rfl
  have c1_1 := S.c 1 1 rfl rfl
  have c1_2 := S.c 1 2 rfl rfl
  have c2_0 := S.c 2 0 rfl rfl
  have c2_1 := S.c 2 1 rfl rfl
  have c2_2 := S.c 2 2 rfl rfl
  have c3_0 := S.c 3 0 rfl rfl
  have c3_1 := S.c 3 1 rfl rfl
  have c4_0 := S.c 4 0 rfl rfl
  have c4_1 := S.c 4 1 rfl rfl
  have H := S.hnew 25 [.bool (negB Z), .slice pz lz Kz]
  replace S := S.alloc 25 [.bool (negB Z), .slice pz lz Kz] (w2.heap.size)
  try simp only [List.cons_append, List.nil_append] at S
  replace n1 := n1.hold H
  replace d1 := d1.hold H
  replace n2 := n2.hold H
  replace d2 := d2.hold H
  replace nx := nx.hold H
  replace ny := ny.hold H
  replace nz := nz.hold H
  clear H
  clear c0_0 c0_1 c0_2 c1_0 c1_1 c1_2 c2_0 c2_1 c2_2 c3_0 c3_1 c4_0 c4_1
  have c0_0 := S.c 0 0 rfl rfl
  have c0_1 := S.c 0 1 rfl rfl
  have c0_2 := S.c 0 2 rfl rfl
  have c1_0 := S.c 1 0 rfl rfl
  have c1_1 := S.c 1 1 rfl rfl
  have c1_2 := S.c 1 2 rfl rfl
  have c2_0 := S.c 2 0 rfl rfl
  have c2_1 := S.c 2 1 rfl rfl
  have c2_2 := S.c 2 2 rfl rfl
  have c3_0 := S.c 3 0 rfl rfl
  have c3_1 := S.c 3 1 rfl rfl
  have c4_0 := S.c 4 0 rfl rfl
  have c4_1 := S.c 4 1 rfl rfl
  have c5_0 := S.c 5 0 rfl rfl
  have c5_1 := S.c 5 1 rfl rfl
  go_upto_region 5 with fail
  clear c0_0 c0_1 c0_2 c1_0 c1_1 c1_2 c2_0 c2_1 c2_2 c3_0 c3_1 c4_0 c4_1 c5_0 c5_1
  generalize (w2.alloc (.cells #[.bool (negB Z), .slice pz lz Kz] 25)) = w3 at S n1 d1 n2 d2 nx ny nz ⊢
  go_cut [10, 11] (fun s10 s11 wx => ∃ g10 pd ld Kd, s10 = .pointer (some ⟨g10, 0, none⟩) ∧ s11 = .int .i64 0 ∧ St w wx [(w.heap.size, 27, [.bool b1, .slice p1 l1 K1, .slice q1 j1 J1]), (w.heap.size + 1, 27, [.bool b2, .slice p2 l2 K2, .slice q2 j2 J2]), (w.heap.size + 1 + 1, 27, [.bool false, .slice none 0 0, .slice none 0 0]), (w1.heap.size, 25, [.bool (negB X), .slice px lx Kx]), (w1.heap.size + 1, 25, [.bool (negB Y), .slice py ly Ky]), (w2.heap.size, 25, [.bool (negB Z), .slice pz lz Kz]), (g10, 25, [.bool (negB D), .slice pd ld Kd])] ∧ IsNat wx (.slice pd ld Kd) D.natAbs ∧ Hold w3 wx)
  case first =>
    have HH := Hold.drew w3
    replace n1 := n1.hold HH
    replace d1 := d1.hold HH
    replace n2 := n2.hold HH
    replace d2 := d2.hold HH
    replace nx := nx.hold HH
    replace ny := ny.hold HH
    replace nz := nz.hold HH
    replace S := S.drew
    refine wp_region_held_drew (S := fun W => W.cell? ⟨w.heap.size, 2, none⟩ = some (.slice q1 j1 J1) ∧ W.cell? ⟨w.heap.size + 1, 2, none⟩ = some (.slice q2 j2 J2)) (by kernel_rfl) ⟨S.c 0 2 rfl rfl, S.c 1 2 rfl rfl⟩ (fun hS => ?_)
    generalize w3.drew = w4 at S n1 d1 n2 d2 nx ny nz HH hS ⊢
    refine wpAnyH_take (i := 0) (v := ?_) ((List.getElem?_toArray ..).trans rfl) (by kernel_rfl) (by kernel_rfl) (by kernel_rfl) (fun _ _ _ h => h) (Or.inl ⟨rfl, fun W hW => ?_⟩) hS ?_
    rotate_left
    · obtain ⟨hW0, hW1⟩ := hW; go_simp; try first | rfl | (rw [if_neg (by first | omega | (simp only [ByteArray.size_append]; first | omega | (have h1 : (ByteArray.mk #[47]).size = 1 := rfl; omega)))]; try rfl) | kernel_rfl
    try simp only [Act.put, List.setIfInBounds_toArray, List.set_cons_zero, List.set_cons_succ]
    refine wpAnyH_take (i := 1) (v := ?_) ((List.getElem?_toArray ..).trans rfl) (by kernel_rfl) (by kernel_rfl) (by kernel_rfl) (fun _ _ _ h => h) (Or.inl ⟨rfl, fun W hW => ?_⟩) hS ?_
    rotate_left
    · obtain ⟨hW0, hW1⟩ := hW; go_simp; try first | rfl | (rw [if_neg (by first | omega | (simp only [ByteArray.size_append]; first | omega | (have h1 : (ByteArray.mk #[47]).size = 1 := rfl; omega)))]; try rfl) | kernel_rfl
    try simp only [Act.put, List.setIfInBounds_toArray, List.set_cons_zero, List.set_cons_succ]
    refine wpAnyH_take (i := 3) (v := ?_) ((List.getElem?_toArray ..).trans rfl) (by kernel_rfl) (by kernel_rfl) (by kernel_rfl) (fun _ _ _ h => h) (Or.inl ⟨rfl, fun W hW => ?_⟩) hS ?_
    rotate_left
    · obtain ⟨hW0, hW1⟩ := hW; go_simp; try first | rfl | (rw [if_neg (by first | omega | (simp only [ByteArray.size_append]; first | omega | (have h1 : (ByteArray.mk #[47]).size = 1 := rfl; omega)))]; try rfl) | kernel_rfl
    try simp only [Act.put, List.setIfInBounds_toArray, List.set_cons_zero, List.set_cons_succ]
    refine wpAnyH_take (i := 4) (v := ?_) ((List.getElem?_toArray ..).trans rfl) (by kernel_rfl) (by kernel_rfl) (by kernel_rfl) (fun _ _ _ h => h) (Or.inl ⟨rfl, fun W hW => ?_⟩) hS ?_
    rotate_left
    · obtain ⟨hW0, hW1⟩ := hW; go_simp; try first | rfl | (rw [if_neg (by first | omega | (simp only [ByteArray.size_append]; first | omega | (have h1 : (ByteArray.mk #[47]).size = 1 := rfl; omega)))]; try rfl) | kernel_rfl
    try simp only [Act.put, List.setIfInBounds_toArray, List.set_cons_zero, List.set_cons_succ]
    refine wpAnyH_ready (rs := [2, 10]) (by kernel_rfl) (by simp) (AllReadyH.cons ((List.getElem?_toArray ..).trans rfl) (fun KK hKK => ?_) (AllReadyH.cons ((List.getElem?_toArray ..).trans rfl) (fun KK hKK => ?_) AllReadyH.nil))
    ·
      go_simp
      clear hS
      refine (S.call (wnat_any d1 HX.out.1.2 (x.den : Int) rfl)).mono ?_
      clear S
      rintro e w5 ⟨⟨_, rfl, pa, la, Ka, rfl, na⟩, S, H⟩
      replace n1 := n1.hold H
      replace d1 := d1.hold H
      replace n2 := n2.hold H
      replace d2 := d2.hold H
      replace nx := nx.hold H
      replace ny := ny.hold H
      replace nz := nz.hold H
      replace HH := HH.trans H
      clear H
      go_wp2_with fail
      refine hKK.out _ _ ⟨S.c 0 2 rfl rfl, S.c 1 2 rfl rfl⟩ (fun hS => ?_)
      clear hKK KK
      try simp only [Act.put, List.setIfInBounds_toArray, List.set_cons_zero, List.set_cons_succ]
      refine wpAnyH_ready (rs := [5, 10]) (by kernel_rfl) (by simp) (AllReadyH.cons ((List.getElem?_toArray ..).trans rfl) (fun KK hKK => ?_) (AllReadyH.cons ((List.getElem?_toArray ..).trans rfl) (fun KK hKK => ?_) AllReadyH.nil))
      ·
        go_simp
        clear hS
        refine (S.call (wnat_any d2 HX.out.2.2 (y.den : Int) rfl)).mono ?_
        clear S
        rintro e w6 ⟨⟨_, rfl, pb, lb, Kb, rfl, nb⟩, S, H⟩
        replace n1 := n1.hold H
        replace d1 := d1.hold H
        replace n2 := n2.hold H
        replace d2 := d2.hold H
        replace nx := nx.hold H
        replace ny := ny.hold H
        replace nz := nz.hold H
        replace na := na.hold H
        replace HH := HH.trans H
        clear H
        go_wp2_with fail
        refine hKK.out _ _ ⟨S.c 0 2 rfl rfl, S.c 1 2 rfl rfl⟩ (fun hS => ?_)
        clear hKK KK
        try simp only [Act.put, List.setIfInBounds_toArray, List.set_cons_zero, List.set_cons_succ]
        refine wpAnyH_ready (rs := [6, 10]) (by kernel_rfl) (by simp) (AllReadyH.cons ((List.getElem?_toArray ..).trans rfl) (fun KK hKK => ?_) (AllReadyH.cons ((List.getElem?_toArray ..).trans rfl) (fun KK hKK => ?_) AllReadyH.nil))
        ·
          go_simp
          clear hS
          refine (S.call (wmul_to ⟨_, _, _, rfl, na⟩ ⟨_, _, _, rfl, nb⟩ HX.out.1.2 HX.out.2.2 D HD.out.2.2.2.1 HB.out.2.2.2)).mono ?_
          clear S
          rintro e w7 ⟨⟨_, rfl, pd, ld, Kd, rfl, nd⟩, S, H⟩
          replace n1 := n1.hold H
          replace d1 := d1.hold H
          replace n2 := n2.hold H
          replace d2 := d2.hold H
          replace nx := nx.hold H
          replace ny := ny.hold H
          replace nz := nz.hold H
          replace na := na.hold H
          replace nb := nb.hold H
          replace HH := HH.trans H
          clear H
          go_wp2_with fail
          refine hKK.out _ _ ⟨S.c 0 2 rfl rfl, S.c 1 2 rfl rfl⟩ (fun hS => ?_)
          clear hKK KK
          try simp only [Act.put, List.setIfInBounds_toArray, List.set_cons_zero, List.set_cons_succ]
          refine wpAnyH_take (i := 7) (v := ?_) ((List.getElem?_toArray ..).trans rfl) (by kernel_rfl) (by kernel_rfl) (by kernel_rfl) (fun _ _ _ h => h) (Or.inl ⟨rfl, fun W hW => ?_⟩) hS ?_
          rotate_left
          · obtain ⟨hW0, hW1⟩ := hW; go_simp; try first | rfl | (rw [if_neg (by first | omega | (simp only [ByteArray.size_append]; first | omega | (have h1 : (ByteArray.mk #[47]).size = 1 := rfl; omega)))]; try rfl) | kernel_rfl
          try simp only [Act.put, List.setIfInBounds_toArray, List.set_cons_zero, List.set_cons_succ]
          refine wpAnyH_take (i := 8) (v := ?_) ((List.getElem?_toArray ..).trans rfl) (by kernel_rfl) (by kernel_rfl) (by kernel_rfl) (fun _ _ _ h => h) (Or.inl ⟨rfl, fun W hW => ?_⟩) hS ?_
          rotate_left
          · obtain ⟨hW0, hW1⟩ := hW; go_simp; try first | rfl | (rw [if_neg (by first | omega | (simp only [ByteArray.size_append]; first | omega | (have h1 : (ByteArray.mk #[47]).size = 1 := rfl; omega)))]; try rfl) | kernel_rfl
          try simp only [Act.put, List.setIfInBounds_toArray, List.set_cons_zero, List.set_cons_succ]
          refine wpAnyH_take (i := 9) (v := ?_) ((List.getElem?_toArray ..).trans rfl) (by kernel_rfl) (by kernel_rfl) (by kernel_rfl) (fun _ _ _ h => h) (Or.inl ⟨rfl, fun W hW => ?_⟩) hS ?_
          rotate_left
          · obtain ⟨hW0, hW1⟩ := hW; go_simp; try first | rfl | (rw [if_neg (by first | omega | (simp only [ByteArray.size_append]; first | omega | (have h1 : (ByteArray.mk #[47]).size = 1 := rfl; omega)))]; try rfl) | kernel_rfl
          try simp only [Act.put, List.setIfInBounds_toArray, List.set_cons_zero, List.set_cons_succ]
          refine wpAnyH_ready (rs := [10]) (by kernel_rfl) (by simp) (AllReadyH.cons ((List.getElem?_toArray ..).trans rfl) (fun KK hKK => ?_) AllReadyH.nil)
          go_simp
          clear hS
          have H := S.hnew 25 [.bool false, .slice none 0 0]
          replace S := S.alloc 25 [.bool false, .slice none 0 0] (w7.heap.size)
          try simp only [List.cons_append, List.nil_append] at S
          replace n1 := n1.hold H
          replace d1 := d1.hold H
          replace n2 := n2.hold H
          replace d2 := d2.hold H
          replace nx := nx.hold H
          replace ny := ny.hold H
          replace nz := nz.hold H
          replace na := na.hold H
          replace nb := nb.hold H
          replace nd := nd.hold H
          replace HH := HH.trans H
          clear H
          refine hKK.out _ _ ⟨S.c 0 2 rfl rfl, S.c 1 2 rfl rfl⟩ (fun hS => ?_)
          generalize (w7.alloc (.cells #[.bool false, .slice none 0 0] 25)) = w8 at S n1 d1 n2 d2 nx ny nz na nb nd HH hS ⊢
          clear hKK KK
          try simp only [Act.put, List.setIfInBounds_toArray, List.set_cons_zero, List.set_cons_succ]
          refine wpAnyH_ready (rs := [11]) (by kernel_rfl) (by simp) (AllReadyH.cons ((List.getElem?_toArray ..).trans rfl) (fun KK hKK => ?_) AllReadyH.nil)
          have c0 := S.c 6 0 rfl rfl
          have f0 := S.f 6 0 rfl
          have c1 := S.c 6 1 rfl rfl
          have f1 := S.f 6 1 rfl
          go_simp
          clear hS c0 f0 c1 f1
          have H := S.hset 6 0 (.bool (negB D)) rfl rfl (by intro q n e; cases e)
          replace S := S.set 6 0 (.bool (negB D)) rfl
          replace n1 := n1.hold H
          replace d1 := d1.hold H
          replace n2 := n2.hold H
          replace d2 := d2.hold H
          replace nx := nx.hold H
          replace ny := ny.hold H
          replace nz := nz.hold H
          replace na := na.hold H
          replace nb := nb.hold H
          replace nd := nd.hold H
          replace HH := HH.trans H
          clear H
          have H := S.hset 6 1 (.slice pd ld Kd) rfl rfl (by intro q n e; cases e)
          replace S := S.set 6 1 (.slice pd ld Kd) rfl
          replace n1 := n1.hold H
          replace d1 := d1.hold H
          replace n2 := n2.hold H
          replace d2 := d2.hold H
          replace nx := nx.hold H
          replace ny := ny.hold H
          replace nz := nz.hold H
          replace na := na.hold H
          replace nb := nb.hold H
          replace nd := nd.hold H
          replace HH := HH.trans H
          clear H
          refine hKK.out _ _ ⟨S.c 0 2 rfl rfl, S.c 1 2 rfl rfl⟩ (fun hS => ?_)
          generalize ((w8.setCell ⟨w7.heap.size, 0, none⟩ (.bool (negB D))).setCell ⟨w7.heap.size, 1, none⟩ (.slice pd ld Kd)) = w9 at S n1 d1 n2 d2 nx ny nz na nb nd HH hS ⊢
          clear hKK KK
          try simp only [Act.put, List.setIfInBounds_toArray, List.set_cons_zero, List.set_cons_succ]
          refine wpAnyH_ready (rs := [12]) (by kernel_rfl) (by simp) (AllReadyH.cons ((List.getElem?_toArray ..).trans rfl) (fun KK hKK => ?_) AllReadyH.nil)
          go_simp
          refine hKK.out _ _ hS (fun hS => ?_)
          clear hKK KK
          try simp only [Act.put, List.setIfInBounds_toArray, List.set_cons_zero, List.set_cons_succ]
          refine wpAnyH_done (by kernel_rfl) ?_ _
          go_wp2_with fail
          go_meet
          case rel => exact ⟨w7.heap.size, pd, ld, Kd, rfl, rfl, S, nd, HH⟩
        ·
          go_simp
          clear hS
          have H := S.hnew 25 [.bool false, .slice none 0 0]
          replace S := S.alloc 25 [.bool false, .slice none 0 0] (w6.heap.size)
          try simp only [List.cons_append, List.nil_append] at S
          replace n1 := n1.hold H
          replace d1 := d1.hold H
          replace n2 := n2.hold H
          replace d2 := d2.hold H
          replace nx := nx.hold H
          replace ny := ny.hold H
          replace nz := nz.hold H
          replace na := na.hold H
          replace nb := nb.hold H
          replace HH := HH.trans H
          clear H
          refine hKK.out _ _ ⟨S.c 0 2 rfl rfl, S.c 1 2 rfl rfl⟩ (fun hS => ?_)
          generalize (w6.alloc (.cells #[.bool false, .slice none 0 0] 25)) = w10 at S n1 d1 n2 d2 nx ny nz na nb HH hS ⊢
          clear hKK KK
          try simp only [Act.put, List.setIfInBounds_toArray, List.set_cons_zero, List.set_cons_succ]
          refine wpAnyH_ready (rs := [6]) (by kernel_rfl) (by simp) (AllReadyH.cons ((List.getElem?_toArray ..).trans rfl) (fun KK hKK => ?_) AllReadyH.nil)
          go_simp
          clear hS
          refine (S.call (wmul_to ⟨_, _, _, rfl, na⟩ ⟨_, _, _, rfl, nb⟩ HX.out.1.2 HX.out.2.2 D HD.out.2.2.2.1 HB.out.2.2.2)).mono ?_
          clear S
          rintro e w11 ⟨⟨_, rfl, pd, ld, Kd, rfl, nd⟩, S, H⟩
          replace n1 := n1.hold H
          replace d1 := d1.hold H
          replace n2 := n2.hold H
          replace d2 := d2.hold H
          replace nx := nx.hold H
          replace ny := ny.hold H
          replace nz := nz.hold H
          replace na := na.hold H
          replace nb := nb.hold H
          replace HH := HH.trans H
          clear H
          go_wp2_with fail
          refine hKK.out _ _ ⟨S.c 0 2 rfl rfl, S.c 1 2 rfl rfl⟩ (fun hS => ?_)
          clear hKK KK
          try simp only [Act.put, List.setIfInBounds_toArray, List.set_cons_zero, List.set_cons_succ]
          refine wpAnyH_take (i := 7) (v := ?_) ((List.getElem?_toArray ..).trans rfl) (by kernel_rfl) (by kernel_rfl) (by kernel_rfl) (fun _ _ _ h => h) (Or.inl ⟨rfl, fun W hW => ?_⟩) hS ?_
          rotate_left
          · obtain ⟨hW0, hW1⟩ := hW; go_simp; try first | rfl | (rw [if_neg (by first | omega | (simp only [ByteArray.size_append]; first | omega | (have h1 : (ByteArray.mk #[47]).size = 1 := rfl; omega)))]; try rfl) | kernel_rfl
          try simp only [Act.put, List.setIfInBounds_toArray, List.set_cons_zero, List.set_cons_succ]
          refine wpAnyH_take (i := 8) (v := ?_) ((List.getElem?_toArray ..).trans rfl) (by kernel_rfl) (by kernel_rfl) (by kernel_rfl) (fun _ _ _ h => h) (Or.inl ⟨rfl, fun W hW => ?_⟩) hS ?_
          rotate_left
          · obtain ⟨hW0, hW1⟩ := hW; go_simp; try first | rfl | (rw [if_neg (by first | omega | (simp only [ByteArray.size_append]; first | omega | (have h1 : (ByteArray.mk #[47]).size = 1 := rfl; omega)))]; try rfl) | kernel_rfl
          try simp only [Act.put, List.setIfInBounds_toArray, List.set_cons_zero, List.set_cons_succ]
          refine wpAnyH_take (i := 9) (v := ?_) ((List.getElem?_toArray ..).trans rfl) (by kernel_rfl) (by kernel_rfl) (by kernel_rfl) (fun _ _ _ h => h) (Or.inl ⟨rfl, fun W hW => ?_⟩) hS ?_
          rotate_left
          · obtain ⟨hW0, hW1⟩ := hW; go_simp; try first | rfl | (rw [if_neg (by first | omega | (simp only [ByteArray.size_append]; first | omega | (have h1 : (ByteArray.mk #[47]).size = 1 := rfl; omega)))]; try rfl) | kernel_rfl
          try simp only [Act.put, List.setIfInBounds_toArray, List.set_cons_zero, List.set_cons_succ]
          refine wpAnyH_ready (rs := [11]) (by kernel_rfl) (by simp) (AllReadyH.cons ((List.getElem?_toArray ..).trans rfl) (fun KK hKK => ?_) AllReadyH.nil)
          have c0 := S.c 6 0 rfl rfl
          have f0 := S.f 6 0 rfl
          have c1 := S.c 6 1 rfl rfl
          have f1 := S.f 6 1 rfl
          go_simp
          clear hS c0 f0 c1 f1
          have H := S.hset 6 0 (.bool (negB D)) rfl rfl (by intro q n e; cases e)
          replace S := S.set 6 0 (.bool (negB D)) rfl
          replace n1 := n1.hold H
          replace d1 := d1.hold H
          replace n2 := n2.hold H
          replace d2 := d2.hold H
          replace nx := nx.hold H
          replace ny := ny.hold H
          replace nz := nz.hold H
          replace na := na.hold H
          replace nb := nb.hold H
          replace nd := nd.hold H
          replace HH := HH.trans H
          clear H
          have H := S.hset 6 1 (.slice pd ld Kd) rfl rfl (by intro q n e; cases e)
          replace S := S.set 6 1 (.slice pd ld Kd) rfl
          replace n1 := n1.hold H
          replace d1 := d1.hold H
          replace n2 := n2.hold H
          replace d2 := d2.hold H
          replace nx := nx.hold H
          replace ny := ny.hold H
          replace nz := nz.hold H
          replace na := na.hold H
          replace nb := nb.hold H
          replace nd := nd.hold H
          replace HH := HH.trans H
          clear H
          refine hKK.out _ _ ⟨S.c 0 2 rfl rfl, S.c 1 2 rfl rfl⟩ (fun hS => ?_)
          generalize ((w11.setCell ⟨w6.heap.size, 0, none⟩ (.bool (negB D))).setCell ⟨w6.heap.size, 1, none⟩ (.slice pd ld Kd)) = w12 at S n1 d1 n2 d2 nx ny nz na nb nd HH hS ⊢
          clear hKK KK
          try simp only [Act.put, List.setIfInBounds_toArray, List.set_cons_zero, List.set_cons_succ]
          refine wpAnyH_ready (rs := [12]) (by kernel_rfl) (by simp) (AllReadyH.cons ((List.getElem?_toArray ..).trans rfl) (fun KK hKK => ?_) AllReadyH.nil)
          go_simp
          refine hKK.out _ _ hS (fun hS => ?_)
          clear hKK KK
          try simp only [Act.put, List.setIfInBounds_toArray, List.set_cons_zero, List.set_cons_succ]
          refine wpAnyH_done (by kernel_rfl) ?_ _
          go_wp2_with fail
          go_meet
          case rel => exact ⟨w6.heap.size, pd, ld, Kd, rfl, rfl, S, nd, HH⟩
      ·
        go_simp
        clear hS
        have H := S.hnew 25 [.bool false, .slice none 0 0]
        replace S := S.alloc 25 [.bool false, .slice none 0 0] (w5.heap.size)
        try simp only [List.cons_append, List.nil_append] at S
        replace n1 := n1.hold H
        replace d1 := d1.hold H
        replace n2 := n2.hold H
        replace d2 := d2.hold H
        replace nx := nx.hold H
        replace ny := ny.hold H
        replace nz := nz.hold H
        replace na := na.hold H
        replace HH := HH.trans H
        clear H
        refine hKK.out _ _ ⟨S.c 0 2 rfl rfl, S.c 1 2 rfl rfl⟩ (fun hS => ?_)
        generalize (w5.alloc (.cells #[.bool false, .slice none 0 0] 25)) = w13 at S n1 d1 n2 d2 nx ny nz na HH hS ⊢
        clear hKK KK
        try simp only [Act.put, List.setIfInBounds_toArray, List.set_cons_zero, List.set_cons_succ]
        refine wpAnyH_ready (rs := [5]) (by kernel_rfl) (by simp) (AllReadyH.cons ((List.getElem?_toArray ..).trans rfl) (fun KK hKK => ?_) AllReadyH.nil)
        go_simp
        clear hS
        refine (S.call (wnat_any d2 HX.out.2.2 (y.den : Int) rfl)).mono ?_
        clear S
        rintro e w14 ⟨⟨_, rfl, pb, lb, Kb, rfl, nb⟩, S, H⟩
        replace n1 := n1.hold H
        replace d1 := d1.hold H
        replace n2 := n2.hold H
        replace d2 := d2.hold H
        replace nx := nx.hold H
        replace ny := ny.hold H
        replace nz := nz.hold H
        replace na := na.hold H
        replace HH := HH.trans H
        clear H
        go_wp2_with fail
        refine hKK.out _ _ ⟨S.c 0 2 rfl rfl, S.c 1 2 rfl rfl⟩ (fun hS => ?_)
        clear hKK KK
        try simp only [Act.put, List.setIfInBounds_toArray, List.set_cons_zero, List.set_cons_succ]
        refine wpAnyH_ready (rs := [6]) (by kernel_rfl) (by simp) (AllReadyH.cons ((List.getElem?_toArray ..).trans rfl) (fun KK hKK => ?_) AllReadyH.nil)
        go_simp
        clear hS
        refine (S.call (wmul_to ⟨_, _, _, rfl, na⟩ ⟨_, _, _, rfl, nb⟩ HX.out.1.2 HX.out.2.2 D HD.out.2.2.2.1 HB.out.2.2.2)).mono ?_
        clear S
        rintro e w15 ⟨⟨_, rfl, pd, ld, Kd, rfl, nd⟩, S, H⟩
        replace n1 := n1.hold H
        replace d1 := d1.hold H
        replace n2 := n2.hold H
        replace d2 := d2.hold H
        replace nx := nx.hold H
        replace ny := ny.hold H
        replace nz := nz.hold H
        replace na := na.hold H
        replace nb := nb.hold H
        replace HH := HH.trans H
        clear H
        go_wp2_with fail
        refine hKK.out _ _ ⟨S.c 0 2 rfl rfl, S.c 1 2 rfl rfl⟩ (fun hS => ?_)
        clear hKK KK
        try simp only [Act.put, List.setIfInBounds_toArray, List.set_cons_zero, List.set_cons_succ]
        refine wpAnyH_take (i := 7) (v := ?_) ((List.getElem?_toArray ..).trans rfl) (by kernel_rfl) (by kernel_rfl) (by kernel_rfl) (fun _ _ _ h => h) (Or.inl ⟨rfl, fun W hW => ?_⟩) hS ?_
        rotate_left
        · obtain ⟨hW0, hW1⟩ := hW; go_simp; try first | rfl | (rw [if_neg (by first | omega | (simp only [ByteArray.size_append]; first | omega | (have h1 : (ByteArray.mk #[47]).size = 1 := rfl; omega)))]; try rfl) | kernel_rfl
        try simp only [Act.put, List.setIfInBounds_toArray, List.set_cons_zero, List.set_cons_succ]
        refine wpAnyH_take (i := 8) (v := ?_) ((List.getElem?_toArray ..).trans rfl) (by kernel_rfl) (by kernel_rfl) (by kernel_rfl) (fun _ _ _ h => h) (Or.inl ⟨rfl, fun W hW => ?_⟩) hS ?_
        rotate_left
        · obtain ⟨hW0, hW1⟩ := hW; go_simp; try first | rfl | (rw [if_neg (by first | omega | (simp only [ByteArray.size_append]; first | omega | (have h1 : (ByteArray.mk #[47]).size = 1 := rfl; omega)))]; try rfl) | kernel_rfl
        try simp only [Act.put, List.setIfInBounds_toArray, List.set_cons_zero, List.set_cons_succ]
        refine wpAnyH_take (i := 9) (v := ?_) ((List.getElem?_toArray ..).trans rfl) (by kernel_rfl) (by kernel_rfl) (by kernel_rfl) (fun _ _ _ h => h) (Or.inl ⟨rfl, fun W hW => ?_⟩) hS ?_
        rotate_left
        · obtain ⟨hW0, hW1⟩ := hW; go_simp; try first | rfl | (rw [if_neg (by first | omega | (simp only [ByteArray.size_append]; first | omega | (have h1 : (ByteArray.mk #[47]).size = 1 := rfl; omega)))]; try rfl) | kernel_rfl
        try simp only [Act.put, List.setIfInBounds_toArray, List.set_cons_zero, List.set_cons_succ]
        refine wpAnyH_ready (rs := [11]) (by kernel_rfl) (by simp) (AllReadyH.cons ((List.getElem?_toArray ..).trans rfl) (fun KK hKK => ?_) AllReadyH.nil)
        have c0 := S.c 6 0 rfl rfl
        have f0 := S.f 6 0 rfl
        have c1 := S.c 6 1 rfl rfl
        have f1 := S.f 6 1 rfl
        go_simp
        clear hS c0 f0 c1 f1
        have H := S.hset 6 0 (.bool (negB D)) rfl rfl (by intro q n e; cases e)
        replace S := S.set 6 0 (.bool (negB D)) rfl
        replace n1 := n1.hold H
        replace d1 := d1.hold H
        replace n2 := n2.hold H
        replace d2 := d2.hold H
        replace nx := nx.hold H
        replace ny := ny.hold H
        replace nz := nz.hold H
        replace na := na.hold H
        replace nb := nb.hold H
        replace nd := nd.hold H
        replace HH := HH.trans H
        clear H
        have H := S.hset 6 1 (.slice pd ld Kd) rfl rfl (by intro q n e; cases e)
        replace S := S.set 6 1 (.slice pd ld Kd) rfl
        replace n1 := n1.hold H
        replace d1 := d1.hold H
        replace n2 := n2.hold H
        replace d2 := d2.hold H
        replace nx := nx.hold H
        replace ny := ny.hold H
        replace nz := nz.hold H
        replace na := na.hold H
        replace nb := nb.hold H
        replace nd := nd.hold H
        replace HH := HH.trans H
        clear H
        refine hKK.out _ _ ⟨S.c 0 2 rfl rfl, S.c 1 2 rfl rfl⟩ (fun hS => ?_)
        generalize ((w15.setCell ⟨w5.heap.size, 0, none⟩ (.bool (negB D))).setCell ⟨w5.heap.size, 1, none⟩ (.slice pd ld Kd)) = w16 at S n1 d1 n2 d2 nx ny nz na nb nd HH hS ⊢
        clear hKK KK
        try simp only [Act.put, List.setIfInBounds_toArray, List.set_cons_zero, List.set_cons_succ]
        refine wpAnyH_ready (rs := [12]) (by kernel_rfl) (by simp) (AllReadyH.cons ((List.getElem?_toArray ..).trans rfl) (fun KK hKK => ?_) AllReadyH.nil)
        go_simp
        refine hKK.out _ _ hS (fun hS => ?_)
        clear hKK KK
        try simp only [Act.put, List.setIfInBounds_toArray, List.set_cons_zero, List.set_cons_succ]
        refine wpAnyH_done (by kernel_rfl) ?_ _
        go_wp2_with fail
        go_meet
        case rel => exact ⟨w5.heap.size, pd, ld, Kd, rfl, rfl, S, nd, HH⟩
    ·
      go_simp
      clear hS
      have H := S.hnew 25 [.bool false, .slice none 0 0]
      replace S := S.alloc 25 [.bool false, .slice none 0 0] (w4.heap.size)
      try simp only [List.cons_append, List.nil_append] at S
      replace n1 := n1.hold H
      replace d1 := d1.hold H
      replace n2 := n2.hold H
      replace d2 := d2.hold H
      replace nx := nx.hold H
      replace ny := ny.hold H
      replace nz := nz.hold H
      replace HH := HH.trans H
      clear H
      refine hKK.out _ _ ⟨S.c 0 2 rfl rfl, S.c 1 2 rfl rfl⟩ (fun hS => ?_)
      generalize (w4.alloc (.cells #[.bool false, .slice none 0 0] 25)) = w17 at S n1 d1 n2 d2 nx ny nz HH hS ⊢
      clear hKK KK
      try simp only [Act.put, List.setIfInBounds_toArray, List.set_cons_zero, List.set_cons_succ]
      refine wpAnyH_ready (rs := [2]) (by kernel_rfl) (by simp) (AllReadyH.cons ((List.getElem?_toArray ..).trans rfl) (fun KK hKK => ?_) AllReadyH.nil)
      go_simp
      clear hS
      refine (S.call (wnat_any d1 HX.out.1.2 (x.den : Int) rfl)).mono ?_
      clear S
      rintro e w18 ⟨⟨_, rfl, pa, la, Ka, rfl, na⟩, S, H⟩
      replace n1 := n1.hold H
      replace d1 := d1.hold H
      replace n2 := n2.hold H
      replace d2 := d2.hold H
      replace nx := nx.hold H
      replace ny := ny.hold H
      replace nz := nz.hold H
      replace HH := HH.trans H
      clear H
      go_wp2_with fail
      refine hKK.out _ _ ⟨S.c 0 2 rfl rfl, S.c 1 2 rfl rfl⟩ (fun hS => ?_)
      clear hKK KK
      try simp only [Act.put, List.setIfInBounds_toArray, List.set_cons_zero, List.set_cons_succ]
      refine wpAnyH_ready (rs := [5]) (by kernel_rfl) (by simp) (AllReadyH.cons ((List.getElem?_toArray ..).trans rfl) (fun KK hKK => ?_) AllReadyH.nil)
      go_simp
      clear hS
      refine (S.call (wnat_any d2 HX.out.2.2 (y.den : Int) rfl)).mono ?_
      clear S
      rintro e w19 ⟨⟨_, rfl, pb, lb, Kb, rfl, nb⟩, S, H⟩
      replace n1 := n1.hold H
      replace d1 := d1.hold H
      replace n2 := n2.hold H
      replace d2 := d2.hold H
      replace nx := nx.hold H
      replace ny := ny.hold H
      replace nz := nz.hold H
      replace na := na.hold H
      replace HH := HH.trans H
      clear H
      go_wp2_with fail
      refine hKK.out _ _ ⟨S.c 0 2 rfl rfl, S.c 1 2 rfl rfl⟩ (fun hS => ?_)
      clear hKK KK
      try simp only [Act.put, List.setIfInBounds_toArray, List.set_cons_zero, List.set_cons_succ]
      refine wpAnyH_ready (rs := [6]) (by kernel_rfl) (by simp) (AllReadyH.cons ((List.getElem?_toArray ..).trans rfl) (fun KK hKK => ?_) AllReadyH.nil)
      go_simp
      clear hS
      refine (S.call (wmul_to ⟨_, _, _, rfl, na⟩ ⟨_, _, _, rfl, nb⟩ HX.out.1.2 HX.out.2.2 D HD.out.2.2.2.1 HB.out.2.2.2)).mono ?_
      clear S
      rintro e w20 ⟨⟨_, rfl, pd, ld, Kd, rfl, nd⟩, S, H⟩
      replace n1 := n1.hold H
      replace d1 := d1.hold H
      replace n2 := n2.hold H
      replace d2 := d2.hold H
      replace nx := nx.hold H
      replace ny := ny.hold H
      replace nz := nz.hold H
      replace na := na.hold H
      replace nb := nb.hold H
      replace HH := HH.trans H
      clear H
      go_wp2_with fail
      refine hKK.out _ _ ⟨S.c 0 2 rfl rfl, S.c 1 2 rfl rfl⟩ (fun hS => ?_)
      clear hKK KK
      try simp only [Act.put, List.setIfInBounds_toArray, List.set_cons_zero, List.set_cons_succ]
      refine wpAnyH_take (i := 7) (v := ?_) ((List.getElem?_toArray ..).trans rfl) (by kernel_rfl) (by kernel_rfl) (by kernel_rfl) (fun _ _ _ h => h) (Or.inl ⟨rfl, fun W hW => ?_⟩) hS ?_
      rotate_left
      · obtain ⟨hW0, hW1⟩ := hW; go_simp; try first | rfl | (rw [if_neg (by first | omega | (simp only [ByteArray.size_append]; first | omega | (have h1 : (ByteArray.mk #[47]).size = 1 := rfl; omega)))]; try rfl) | kernel_rfl
      try simp only [Act.put, List.setIfInBounds_toArray, List.set_cons_zero, List.set_cons_succ]
      refine wpAnyH_take (i := 8) (v := ?_) ((List.getElem?_toArray ..).trans rfl) (by kernel_rfl) (by kernel_rfl) (by kernel_rfl) (fun _ _ _ h => h) (Or.inl ⟨rfl, fun W hW => ?_⟩) hS ?_
      rotate_left
      · obtain ⟨hW0, hW1⟩ := hW; go_simp; try first | rfl | (rw [if_neg (by first | omega | (simp only [ByteArray.size_append]; first | omega | (have h1 : (ByteArray.mk #[47]).size = 1 := rfl; omega)))]; try rfl) | kernel_rfl
      try simp only [Act.put, List.setIfInBounds_toArray, List.set_cons_zero, List.set_cons_succ]
      refine wpAnyH_take (i := 9) (v := ?_) ((List.getElem?_toArray ..).trans rfl) (by kernel_rfl) (by kernel_rfl) (by kernel_rfl) (fun _ _ _ h => h) (Or.inl ⟨rfl, fun W hW => ?_⟩) hS ?_
      rotate_left
      · obtain ⟨hW0, hW1⟩ := hW; go_simp; try first | rfl | (rw [if_neg (by first | omega | (simp only [ByteArray.size_append]; first | omega | (have h1 : (ByteArray.mk #[47]).size = 1 := rfl; omega)))]; try rfl) | kernel_rfl
      try simp only [Act.put, List.setIfInBounds_toArray, List.set_cons_zero, List.set_cons_succ]
      refine wpAnyH_ready (rs := [11]) (by kernel_rfl) (by simp) (AllReadyH.cons ((List.getElem?_toArray ..).trans rfl) (fun KK hKK => ?_) AllReadyH.nil)
      have c0 := S.c 6 0 rfl rfl
      have f0 := S.f 6 0 rfl
      have c1 := S.c 6 1 rfl rfl
      have f1 := S.f 6 1 rfl
      go_simp
      clear hS c0 f0 c1 f1
      have H := S.hset 6 0 (.bool (negB D)) rfl rfl (by intro q n e; cases e)
      replace S := S.set 6 0 (.bool (negB D)) rfl
      replace n1 := n1.hold H
      replace d1 := d1.hold H
      replace n2 := n2.hold H
      replace d2 := d2.hold H
      replace nx := nx.hold H
      replace ny := ny.hold H
      replace nz := nz.hold H
      replace na := na.hold H
      replace nb := nb.hold H
      replace nd := nd.hold H
      replace HH := HH.trans H
      clear H
      have H := S.hset 6 1 (.slice pd ld Kd) rfl rfl (by intro q n e; cases e)
      replace S := S.set 6 1 (.slice pd ld Kd) rfl
      replace n1 := n1.hold H
      replace d1 := d1.hold H
      replace n2 := n2.hold H
      replace d2 := d2.hold H
      replace nx := nx.hold H
      replace ny := ny.hold H
      replace nz := nz.hold H
      replace na := na.hold H
      replace nb := nb.hold H
      replace nd := nd.hold H
      replace HH := HH.trans H
      clear H
      refine hKK.out _ _ ⟨S.c 0 2 rfl rfl, S.c 1 2 rfl rfl⟩ (fun hS => ?_)
      generalize ((w20.setCell ⟨w4.heap.size, 0, none⟩ (.bool (negB D))).setCell ⟨w4.heap.size, 1, none⟩ (.slice pd ld Kd)) = w21 at S n1 d1 n2 d2 nx ny nz na nb nd HH hS ⊢
      clear hKK KK
      try simp only [Act.put, List.setIfInBounds_toArray, List.set_cons_zero, List.set_cons_succ]
      refine wpAnyH_ready (rs := [12]) (by kernel_rfl) (by simp) (AllReadyH.cons ((List.getElem?_toArray ..).trans rfl) (fun KK hKK => ?_) AllReadyH.nil)
      go_simp
      refine hKK.out _ _ hS (fun hS => ?_)
      clear hKK KK
      try simp only [Act.put, List.setIfInBounds_toArray, List.set_cons_zero, List.set_cons_succ]
      refine wpAnyH_done (by kernel_rfl) ?_ _
      go_wp2_with fail
      go_meet
      case rel => exact ⟨w4.heap.size, pd, ld, Kd, rfl, rfl, S, nd, HH⟩
  case rest =>
    obtain ⟨g10, pd, ld, Kd, rfl, rfl, S, nd, HH⟩ := hcut
    obtain ⟨w22, rfl⟩ : ∃ W : World, W = wc := ⟨_, rfl⟩
    replace n1 := n1.hold HH
    replace d1 := d1.hold HH
    replace n2 := n2.hold HH
    replace d2 := d2.hold HH
    replace nx := nx.hold HH
    replace ny := ny.hold HH
    replace nz := nz.hold HH
    clear HH
    have c0_0 := S.c 0 0 rfl rfl
    have c0_1 := S.c 0 1 rfl rfl
    have c0_2 := S.c 0 2 rfl rfl
    have c1_0 := S.c 1 0 rfl rfl
    have c1_1 := S.c 1 1 rfl rfl
    have c1_2 := S.c 1 2 rfl rfl
    have c2_0 := S.c 2 0 rfl rfl
    have c2_1 := S.c 2 1 rfl rfl
    have c2_2 := S.c 2 2 rfl rfl
    have c3_0 := S.c 3 0 rfl rfl
    have c3_1 := S.c 3 1 rfl rfl
    have c4_0 := S.c 4 0 rfl rfl
    have c4_1 := S.c 4 1 rfl rfl
    have c5_0 := S.c 5 0 rfl rfl
    have c5_1 := S.c 5 1 rfl rfl
    have c6_0 := S.c 6 0 rfl rfl
    have c6_1 := S.c 6 1 rfl rfl
    go_upto_region 6 with fail
    clear c0_0 c0_1 c0_2 c1_0 c1_1 c1_2 c2_0 c2_1 c2_2 c3_0 c3_1 c4_0 c4_1 c5_0 c5_1 c6_0 c6_1
    have HH := Hold.drew w22
    replace n1 := n1.hold HH
    replace d1 := d1.hold HH
    replace n2 := n2.hold HH
    replace d2 := d2.hold HH
    replace nx := nx.hold HH
    replace ny := ny.hold HH
    replace nz := nz.hold HH
    replace nd := nd.hold HH
    replace S := S.drew
    refine wp_region_held_drew (S := fun W => W.cell? ⟨w2.heap.size, 0, none⟩ = some (.bool (negB Z)) ∧ W.cell? ⟨w2.heap.size, 1, none⟩ = some (.slice pz lz Kz) ∧ W.cell? ⟨g10, 0, none⟩ = some (.bool (negB D)) ∧ W.cell? ⟨g10, 1, none⟩ = some (.slice pd ld Kd)) (by kernel_rfl) ⟨S.c 5 0 rfl rfl, S.c 5 1 rfl rfl, S.c 6 0 rfl rfl, S.c 6 1 rfl rfl⟩ (fun hS => ?_)
    generalize w22.drew = w23 at S n1 d1 n2 d2 nx ny nz nd HH hS ⊢
    refine wpAnyH_take (i := 0) (v := ?_) ((List.getElem?_toArray ..).trans rfl) (by kernel_rfl) (by kernel_rfl) (by kernel_rfl) (fun _ _ _ h => h) (Or.inl ⟨rfl, fun W hW => ?_⟩) hS ?_
    rotate_left
    · obtain ⟨hW0, hW1, hW2, hW3⟩ := hW; go_simp; try first | rfl | (rw [if_neg (by first | omega | (simp only [ByteArray.size_append]; first | omega | (have h1 : (ByteArray.mk #[47]).size = 1 := rfl; omega)))]; try rfl) | kernel_rfl
    try simp only [Act.put, List.setIfInBounds_toArray, List.set_cons_zero, List.set_cons_succ]
    refine wpAnyH_take (i := 1) (v := ?_) ((List.getElem?_toArray ..).trans rfl) (by kernel_rfl) (by kernel_rfl) (by kernel_rfl) (fun _ _ _ h => h) (Or.inl ⟨rfl, fun W hW => ?_⟩) hS ?_
    rotate_left
    · obtain ⟨hW0, hW1, hW2, hW3⟩ := hW; go_simp; try first | rfl | (rw [if_neg (by first | omega | (simp only [ByteArray.size_append]; first | omega | (have h1 : (ByteArray.mk #[47]).size = 1 := rfl; omega)))]; try rfl) | kernel_rfl
    try simp only [Act.put, List.setIfInBounds_toArray, List.set_cons_zero, List.set_cons_succ]
    refine wpAnyH_take (i := 2) (v := ?_) ((List.getElem?_toArray ..).trans rfl) (by kernel_rfl) (by kernel_rfl) (by kernel_rfl) (fun _ _ _ h => h) (Or.inl ⟨rfl, fun W hW => ?_⟩) hS ?_
    rotate_left
    · obtain ⟨hW0, hW1, hW2, hW3⟩ := hW; go_simp; try first | rfl | (rw [if_neg (by first | omega | (simp only [ByteArray.size_append]; first | omega | (have h1 : (ByteArray.mk #[47]).size = 1 := rfl; omega)))]; try rfl) | kernel_rfl
    try simp only [Act.put, List.setIfInBounds_toArray, List.set_cons_zero, List.set_cons_succ]
    refine wpAnyH_take (i := 3) (v := ?_) ((List.getElem?_toArray ..).trans rfl) (by kernel_rfl) (by kernel_rfl) (by kernel_rfl) (fun _ _ _ h => h) (Or.inl ⟨rfl, fun W hW => ?_⟩) hS ?_
    rotate_left
    · obtain ⟨hW0, hW1, hW2, hW3⟩ := hW; go_simp; try first | rfl | (rw [if_neg (by first | omega | (simp only [ByteArray.size_append]; first | omega | (have h1 : (ByteArray.mk #[47]).size = 1 := rfl; omega)))]; try rfl) | kernel_rfl
    try simp only [Act.put, List.setIfInBounds_toArray, List.set_cons_zero, List.set_cons_succ]
    refine wpAnyH_ready (rs := [4]) (by kernel_rfl) (by simp) (AllReadyH.cons ((List.getElem?_toArray ..).trans rfl) (fun KK hKK => ?_) AllReadyH.nil)
    go_simp
    clear hS
    have H := S.hnew 31 [.int .i64 0, .int .i64 0]
    replace S := S.alloc 31 [.int .i64 0, .int .i64 0] (w23.heap.size)
    try simp only [List.cons_append, List.nil_append] at S
    replace n1 := n1.hold H
    replace d1 := d1.hold H
    replace n2 := n2.hold H
    replace d2 := d2.hold H
    replace nx := nx.hold H
    replace ny := ny.hold H
    replace nz := nz.hold H
    replace nd := nd.hold H
    replace HH := HH.trans H
    clear H
    refine hKK.out _ _ ⟨S.c 5 0 rfl rfl, S.c 5 1 rfl rfl, S.c 6 0 rfl rfl, S.c 6 1 rfl rfl⟩ (fun hS => ?_)
    generalize (w23.alloc (.cells #[.int .i64 0, .int .i64 0] 31)) = w24 at S n1 d1 n2 d2 nx ny nz nd HH hS ⊢
    clear hKK KK
    try simp only [Act.put, List.setIfInBounds_toArray, List.set_cons_zero, List.set_cons_succ]
    refine wpAnyH_ready (rs := [5]) (by kernel_rfl) (by simp) (AllReadyH.cons ((List.getElem?_toArray ..).trans rfl) (fun KK hKK => ?_) AllReadyH.nil)
    go_simp
    clear hS
    refine (S.call (or_two S 7 rfl)).mono ?_
    clear S
    rintro e w25 ⟨rfl, S, H⟩
    replace n1 := n1.hold H
    replace d1 := d1.hold H
    replace n2 := n2.hold H
    replace d2 := d2.hold H
    replace nx := nx.hold H
    replace ny := ny.hold H
    replace nz := nz.hold H
    replace nd := nd.hold H
    replace HH := HH.trans H
    clear H
    go_wp2_with fail
    refine hKK.out _ _ ⟨S.c 5 0 rfl rfl, S.c 5 1 rfl rfl, S.c 6 0 rfl rfl, S.c 6 1 rfl rfl⟩ (fun hS => ?_)
    clear hKK KK
    try simp only [Act.put, List.setIfInBounds_toArray, List.set_cons_zero, List.set_cons_succ]
    refine wpAnyH_ready (rs := [6]) (by kernel_rfl) (by simp) (AllReadyH.cons ((List.getElem?_toArray ..).trans rfl) (fun KK hKK => ?_) AllReadyH.nil)
    go_simp
    clear hS
    refine (S.call (over_any ⟨_, _, _, rfl, nz⟩ ⟨_, _, _, rfl, nd⟩ HB.out.2.2.1 HB.out.2.2.2 HD.out.2.2.2.2.2 q HD.out.2.2.2.2.1)).mono ?_
    clear S
    rintro e w26 ⟨⟨_, rfl, b, p, l, K, q', j, J, rfl, hb, nn, dd⟩, S, H⟩
    replace n1 := n1.hold H
    replace d1 := d1.hold H
    replace n2 := n2.hold H
    replace d2 := d2.hold H
    replace nx := nx.hold H
    replace ny := ny.hold H
    replace nz := nz.hold H
    replace nd := nd.hold H
    replace HH := HH.trans H
    clear H
    go_wp2_with fail
    refine hKK.out _ _ ⟨S.c 5 0 rfl rfl, S.c 5 1 rfl rfl, S.c 6 0 rfl rfl, S.c 6 1 rfl rfl⟩ (fun hS => ?_)
    clear hKK KK
    try simp only [Act.put, List.setIfInBounds_toArray, List.set_cons_zero, List.set_cons_succ]
    refine wpAnyH_take (i := 7) (v := ?_) ((List.getElem?_toArray ..).trans rfl) (by kernel_rfl) (by kernel_rfl) (by kernel_rfl) (fun _ _ _ h => h) (Or.inl ⟨rfl, fun W hW => ?_⟩) hS ?_
    rotate_left
    · obtain ⟨hW0, hW1, hW2, hW3⟩ := hW; go_simp; try first | rfl | (rw [if_neg (by first | omega | (simp only [ByteArray.size_append]; first | omega | (have h1 : (ByteArray.mk #[47]).size = 1 := rfl; omega)))]; try rfl) | kernel_rfl
    try simp only [Act.put, List.setIfInBounds_toArray, List.set_cons_zero, List.set_cons_succ]
    refine wpAnyH_take (i := 8) (v := ?_) ((List.getElem?_toArray ..).trans rfl) (by kernel_rfl) (by kernel_rfl) (by kernel_rfl) (fun _ _ _ h => h) (Or.inl ⟨rfl, fun W hW => ?_⟩) hS ?_
    rotate_left
    · obtain ⟨hW0, hW1, hW2, hW3⟩ := hW; go_simp; try first | rfl | (rw [if_neg (by first | omega | (simp only [ByteArray.size_append]; first | omega | (have h1 : (ByteArray.mk #[47]).size = 1 := rfl; omega)))]; try rfl) | kernel_rfl
    try simp only [Act.put, List.setIfInBounds_toArray, List.set_cons_zero, List.set_cons_succ]
    refine wpAnyH_ready (rs := [9]) (by kernel_rfl) (by simp) (AllReadyH.cons ((List.getElem?_toArray ..).trans rfl) (fun KK hKK => ?_) AllReadyH.nil)
    have c0 := S.c 2 0 rfl rfl
    have f0 := S.f 2 0 rfl
    have c1 := S.c 2 1 rfl rfl
    have f1 := S.f 2 1 rfl
    have c2 := S.c 2 2 rfl rfl
    have f2 := S.f 2 2 rfl
    go_simp
    clear hS c0 f0 c1 f1 c2 f2
    have H := S.hset 2 0 (.bool b) rfl rfl (by intro q n e; cases e)
    replace S := S.set 2 0 (.bool b) rfl
    replace n1 := n1.hold H
    replace d1 := d1.hold H
    replace n2 := n2.hold H
    replace d2 := d2.hold H
    replace nx := nx.hold H
    replace ny := ny.hold H
    replace nz := nz.hold H
    replace nd := nd.hold H
    replace nn := nn.hold H
    replace dd := dd.hold H
    replace HH := HH.trans H
    clear H
    have H := S.hset 2 1 (.slice p l K) rfl rfl (by intro q n e; cases e)
    replace S := S.set 2 1 (.slice p l K) rfl
    replace n1 := n1.hold H
    replace d1 := d1.hold H
    replace n2 := n2.hold H
    replace d2 := d2.hold H
    replace nx := nx.hold H
    replace ny := ny.hold H
    replace nz := nz.hold H
    replace nd := nd.hold H
    replace nn := nn.hold H
    replace dd := dd.hold H
    replace HH := HH.trans H
    clear H
    have H := S.hset 2 2 (.slice q' j J) rfl rfl (by intro q n e; cases e)
    replace S := S.set 2 2 (.slice q' j J) rfl
    replace n1 := n1.hold H
    replace d1 := d1.hold H
    replace n2 := n2.hold H
    replace d2 := d2.hold H
    replace nx := nx.hold H
    replace ny := ny.hold H
    replace nz := nz.hold H
    replace nd := nd.hold H
    replace nn := nn.hold H
    replace dd := dd.hold H
    replace HH := HH.trans H
    clear H
    refine hKK.out _ _ ⟨S.c 5 0 rfl rfl, S.c 5 1 rfl rfl, S.c 6 0 rfl rfl, S.c 6 1 rfl rfl⟩ (fun hS => ?_)
    generalize (((w26.setCell ⟨w.heap.size + 1 + 1, 0, none⟩ (.bool b)).setCell ⟨w.heap.size + 1 + 1, 1, none⟩ (.slice p l K)).setCell ⟨w.heap.size + 1 + 1, 2, none⟩ (.slice q' j J)) = w27 at S n1 d1 n2 d2 nx ny nz nd nn dd HH hS ⊢
    clear hKK KK
    try simp only [Act.put, List.setIfInBounds_toArray, List.set_cons_zero, List.set_cons_succ]
    refine wpAnyH_ready (rs := [10]) (by kernel_rfl) (by simp) (AllReadyH.cons ((List.getElem?_toArray ..).trans rfl) (fun KK hKK => ?_) AllReadyH.nil)
    go_simp
    refine hKK.out _ _ hS (fun hS => ?_)
    clear hKK KK
    try simp only [Act.put, List.setIfInBounds_toArray, List.set_cons_zero, List.set_cons_succ]
    refine wpAnyH_done (by kernel_rfl) ?_ _
    clear hS HH
    have c0_0 := S.c 0 0 rfl rfl
    have c0_1 := S.c 0 1 rfl rfl
    have c0_2 := S.c 0 2 rfl rfl
    have c1_0 := S.c 1 0 rfl rfl
    have c1_1 := S.c 1 1 rfl rfl
    have c1_2 := S.c 1 2 rfl rfl
    have c2_0 := S.c 2 0 rfl rfl
    have c2_1 := S.c 2 1 rfl rfl
    have c2_2 := S.c 2 2 rfl rfl
    have c3_0 := S.c 3 0 rfl rfl
    have c3_1 := S.c 3 1 rfl rfl
    have c4_0 := S.c 4 0 rfl rfl
    have c4_1 := S.c 4 1 rfl rfl
    have c5_0 := S.c 5 0 rfl rfl
    have c5_1 := S.c 5 1 rfl rfl
    have c6_0 := S.c 6 0 rfl rfl
    have c6_1 := S.c 6 1 rfl rfl
    go_wp2_with fail
    have d2_0 := S.c 2 0 rfl rfl
    have d2_1 := S.c 2 1 rfl rfl
    have d2_2 := S.c 2 2 rfl rfl
    exact bodyPost_ret (v := .tuple #[.agg #[.bool b, .slice p l K, .slice q' j J], .int .i64 0]) (by simp [results, Tryz.f18, go_sem, d2_0, d2_1, d2_2]) rfl (⟨⟨_, rfl, b, p, l, K, q', j, J, rfl, hb, nn, dd⟩, S.below⟩)

end Go.Proofs.YtggnjlbnfgjgdaaGreat

namespace Go.Proofs.YtggnjlbnfgjgdaaGreat
open Go.RowKit

set_option maxRecDepth 100000 in
set_option maxHeartbeats 4000000 in
theorem rmul_any {va vb : Value} {x y : Rat} {w : World} (ha : IsRat w va x) (hb : IsRat w vb y) {k1 k2 : Nat} (hx : RB x k1) (hy : RB y k2) (hk : k1 + k2 ≤ 511) (q : Rat) (hq : x * y = q) :
    Calls Tryz.prog 20 #[va, vb] w fun e w' => (∃ u, e = .returned (.tuple #[u, .int .i64 0]) ∧ IsRat w' u q) ∧ Below w.heap.size w w' := by
  obtain ⟨b1, p1, l1, K1, q1, j1, J1, rfl, hb1, n1, d1⟩ := ha
  obtain ⟨b2, p2, l2, K2, q2, j2, J2, rfl, hb2, n2, d2⟩ := hb
  obtain ⟨Z, hZ⟩ : ∃ Z, x.num * y.num = Z := ⟨_, rfl⟩
  obtain ⟨D, hD⟩ : ∃ D, ((x.den * y.den : Nat) : Int) = D := ⟨_, rfl⟩
  have hb := rbz hx hy
  rw [hZ] at hb
  have hD0 : D ≠ 0 := by rw [← hD]; have := Nat.mul_pos x.den_pos y.den_pos; omega
  have hDb : D.natAbs < maxN := by rw [← hD, Int.natAbs_natCast]; exact nb_max hb.2.2.1 (by omega)
  have hdd : (x.den : Int) * (y.den : Int) = D := by rw [← hD, Int.natCast_mul]
  have hq2 : q = Rat.divInt Z D := by rw [← hq, mul_divInt, hZ, hD]
  have HX := Lib.hid (And.intro (rb_max hx (by omega)) (rb_max hy (by omega)))
  have HD := Lib.hid (And.intro hZ (And.intro hdd (And.intro hq2 hD0)))
  have HB := Lib.hid (And.intro (nb_max hb.2.2.2 (by omega)) hDb)
  clear hZ hD hb hD0 hDb hdd hq hq2 hx hy hk
  have S := (((St.start w).alloc 27 [.bool b1, .slice p1 l1 K1, .slice q1 j1 J1] (w.heap.size)).alloc 27 [.bool b2, .slice p2 l2 K2, .slice q2 j2 J2] (w.heap.size + 1)).alloc 27 [.bool false, .slice none 0 0, .slice none 0 0] (w.heap.size + 1 + 1)
  try simp only [List.cons_append, List.nil_append] at S
  replace n1 := n1.hold S.hold
  replace d1 := d1.hold S.hold
  replace n2 := n2.hold S.hold
  replace d2 := d2.hold S.hold
  have c0_0 := S.c 0 0 rfl rfl
  have c0_1 := S.c 0 1 rfl rfl
  have c0_2 := S.c 0 2 rfl rfl
  have c1_0 := S.c 1 0 rfl rfl
  have c1_1 := S.c 1 1 rfl rfl
  have c1_2 := S.c 1 2 rfl rfl
  have c2_0 := S.c 2 0 rfl rfl
  have c2_1 := S.c 2 1 rfl rfl
  have c2_2 := S.c 2 2 rfl rfl
  go_enter Tryz.func20, Tryz.ntmps20
  go_wp2_with fail
  clear c0_0 c0_1 c0_2 c1_0 c1_1 c1_2 c2_0 c2_1 c2_2
  refine (S.call (wmul_to ⟨_, _, _, by rw [hb1.out], n1⟩ ⟨_, _, _, by rw [hb2.out], n2⟩ HX.out.1.1 HX.out.2.1 Z HD.out.1 HB.out.1)).mono ?_
  clear S
  rintro e w1 ⟨⟨_, rfl, pz, lz, Kz, rfl, nz⟩, S, H⟩
  replace n1 := n1.hold H
  replace d1 := d1.hold H
  replace n2 := n2.hold H
  replace d2 := d2.hold H
  clear H
  have c0_0 := S.c 0 0 rfl rfl
  have c0_1 := S.c 0 1 rfl rfl
  have c0_2 := S.c 0 2 rfl rfl
  have c1_0 := S.c 1 0 rfl rfl
  have c1_1 := S.c 1 1 rfl rfl
  have c1_2 := S.c 1 2 rfl rfl
  have c2_0 := S.c 2 0 rfl rfl
  have c2_1 := S.c 2 1 rfl rfl
  have c2_2 := S.c 2 2 rfl rfl
  have H := S.hnew 25 [.bool (negB Z), .slice pz lz Kz]
  replace S := S.alloc 25 [.bool (negB Z), .slice pz lz Kz] (w1.heap.size)
  try simp only [List.cons_append, List.nil_append] at S
  replace n1 := n1.hold H
  replace d1 := d1.hold H
  replace n2 := n2.hold H
  replace d2 := d2.hold H
  replace nz := nz.hold H
  clear H
  clear c0_0 c0_1 c0_2 c1_0 c1_1 c1_2 c2_0 c2_1 c2_2
  have c0_0 := S.c 0 0 rfl rfl
  have c0_1 := S.c 0 1 rfl rfl
  have c0_2 := S.c 0 2 rfl rfl
  have c1_0 := S.c 1 0 rfl rfl
  have c1_1 := S.c 1 1 rfl rfl
  have c1_2 := S.c 1 2 rfl rfl
  have c2_0 := S.c 2 0 rfl rfl
  have c2_1 := S.c 2 1 rfl rfl
  have c2_2 := S.c 2 2 rfl rfl
  have c3_0 := S.c 3 0 rfl rfl
  have c3_1 := S.c 3 1 rfl rfl
  go_upto_region 2 with fail
  clear c0_0 c0_1 c0_2 c1_0 c1_1 c1_2 c2_0 c2_1 c2_2 c3_0 c3_1
  generalize (w1.alloc (.cells #[.bool (negB Z), .slice pz lz Kz] 25)) = w2 at S n1 d1 n2 d2 nz ⊢
  go_cut [8, 9] (fun s8 s9 wx => ∃ g8 pd ld Kd, s8 = .pointer (some ⟨g8, 0, none⟩) ∧ s9 = .int .i64 0 ∧ St w wx [(w.heap.size, 27, [.bool b1, .slice p1 l1 K1, .slice q1 j1 J1]), (w.heap.size + 1, 27, [.bool b2, .slice p2 l2 K2, .slice q2 j2 J2]), (w.heap.size + 1 + 1, 27, [.bool false, .slice none 0 0, .slice none 0 0]), (w1.heap.size, 25, [.bool (negB Z), .slice pz lz Kz]), (g8, 25, [.bool (negB D), .slice pd ld Kd])] ∧ IsNat wx (.slice pd ld Kd) D.natAbs ∧ Hold w2 wx)
  case first =>
    have HH := Hold.drew w2
    replace n1 := n1.hold HH
    replace d1 := d1.hold HH
    replace n2 := n2.hold HH
    replace d2 := d2.hold HH
    replace nz := nz.hold HH
    replace S := S.drew
    refine wp_region_held_drew (S := fun W => W.cell? ⟨w.heap.size, 2, none⟩ = some (.slice q1 j1 J1) ∧ W.cell? ⟨w.heap.size + 1, 2, none⟩ = some (.slice q2 j2 J2)) (by kernel_rfl) ⟨S.c 0 2 rfl rfl, S.c 1 2 rfl rfl⟩ (fun hS => ?_)
    generalize w2.drew = w3 at S n1 d1 n2 d2 nz HH hS ⊢
    refine wpAnyH_take (i := 0) (v := ?_) ((List.getElem?_toArray ..).trans rfl) (by kernel_rfl) (by kernel_rfl) (by kernel_rfl) (fun _ _ _ h => h) (Or.inl ⟨rfl, fun W hW => ?_⟩) hS ?_
    rotate_left
    · obtain ⟨hW0, hW1⟩ := hW; go_simp; try first | rfl | (rw [if_neg (by first | omega | (simp only [ByteArray.size_append]; first | omega | (have h1 : (ByteArray.mk #[47]).size = 1 := rfl; omega)))]; try rfl) | kernel_rfl
    try simp only [Act.put, List.setIfInBounds_toArray, List.set_cons_zero, List.set_cons_succ]
    refine wpAnyH_take (i := 1) (v := ?_) ((List.getElem?_toArray ..).trans rfl) (by kernel_rfl) (by kernel_rfl) (by kernel_rfl) (fun _ _ _ h => h) (Or.inl ⟨rfl, fun W hW => ?_⟩) hS ?_
    rotate_left
    · obtain ⟨hW0, hW1⟩ := hW; go_simp; try first | rfl | (rw [if_neg (by first | omega | (simp only [ByteArray.size_append]; first | omega | (have h1 : (ByteArray.mk #[47]).size = 1 := rfl; omega)))]; try rfl) | kernel_rfl
    try simp only [Act.put, List.setIfInBounds_toArray, List.set_cons_zero, List.set_cons_succ]
    refine wpAnyH_take (i := 3) (v := ?_) ((List.getElem?_toArray ..).trans rfl) (by kernel_rfl) (by kernel_rfl) (by kernel_rfl) (fun _ _ _ h => h) (Or.inl ⟨rfl, fun W hW => ?_⟩) hS ?_
    rotate_left
    · obtain ⟨hW0, hW1⟩ := hW; go_simp; try first | rfl | (rw [if_neg (by first | omega | (simp only [ByteArray.size_append]; first | omega | (have h1 : (ByteArray.mk #[47]).size = 1 := rfl; omega)))]; try rfl) | kernel_rfl
    try simp only [Act.put, List.setIfInBounds_toArray, List.set_cons_zero, List.set_cons_succ]
    refine wpAnyH_take (i := 4) (v := ?_) ((List.getElem?_toArray ..).trans rfl) (by kernel_rfl) (by kernel_rfl) (by kernel_rfl) (fun _ _ _ h => h) (Or.inl ⟨rfl, fun W hW => ?_⟩) hS ?_
    rotate_left
    · obtain ⟨hW0, hW1⟩ := hW; go_simp; try first | rfl | (rw [if_neg (by first | omega | (simp only [ByteArray.size_append]; first | omega | (have h1 : (ByteArray.mk #[47]).size = 1 := rfl; omega)))]; try rfl) | kernel_rfl
    try simp only [Act.put, List.setIfInBounds_toArray, List.set_cons_zero, List.set_cons_succ]
    refine wpAnyH_ready (rs := [2, 10]) (by kernel_rfl) (by simp) (AllReadyH.cons ((List.getElem?_toArray ..).trans rfl) (fun KK hKK => ?_) (AllReadyH.cons ((List.getElem?_toArray ..).trans rfl) (fun KK hKK => ?_) AllReadyH.nil))
    ·
      go_simp
      clear hS
      refine (S.call (wnat_any d1 HX.out.1.2 (x.den : Int) rfl)).mono ?_
      clear S
      rintro e w4 ⟨⟨_, rfl, pa, la, Ka, rfl, na⟩, S, H⟩
      replace n1 := n1.hold H
      replace d1 := d1.hold H
      replace n2 := n2.hold H
      replace d2 := d2.hold H
      replace nz := nz.hold H
      replace HH := HH.trans H
      clear H
      go_wp2_with fail
      refine hKK.out _ _ ⟨S.c 0 2 rfl rfl, S.c 1 2 rfl rfl⟩ (fun hS => ?_)
      clear hKK KK
      try simp only [Act.put, List.setIfInBounds_toArray, List.set_cons_zero, List.set_cons_succ]
      refine wpAnyH_ready (rs := [5, 10]) (by kernel_rfl) (by simp) (AllReadyH.cons ((List.getElem?_toArray ..).trans rfl) (fun KK hKK => ?_) (AllReadyH.cons ((List.getElem?_toArray ..).trans rfl) (fun KK hKK => ?_) AllReadyH.nil))
      ·
        go_simp
        clear hS
        refine (S.call (wnat_any d2 HX.out.2.2 (y.den : Int) rfl)).mono ?_
        clear S
        rintro e w5 ⟨⟨_, rfl, pb, lb, Kb, rfl, nb⟩, S, H⟩
        replace n1 := n1.hold H
        replace d1 := d1.hold H
        replace n2 := n2.hold H
        replace d2 := d2.hold H
        replace nz := nz.hold H
        replace na := na.hold H
        replace HH := HH.trans H
        clear H
        go_wp2_with fail
        refine hKK.out _ _ ⟨S.c 0 2 rfl rfl, S.c 1 2 rfl rfl⟩ (fun hS => ?_)
        clear hKK KK
        try simp only [Act.put, List.setIfInBounds_toArray, List.set_cons_zero, List.set_cons_succ]
        refine wpAnyH_ready (rs := [6, 10]) (by kernel_rfl) (by simp) (AllReadyH.cons ((List.getElem?_toArray ..).trans rfl) (fun KK hKK => ?_) (AllReadyH.cons ((List.getElem?_toArray ..).trans rfl) (fun KK hKK => ?_) AllReadyH.nil))
        ·
          go_simp
          clear hS
          refine (S.call (wmul_to ⟨_, _, _, rfl, na⟩ ⟨_, _, _, rfl, nb⟩ HX.out.1.2 HX.out.2.2 D HD.out.2.1 HB.out.2)).mono ?_
          clear S
          rintro e w6 ⟨⟨_, rfl, pd, ld, Kd, rfl, nd⟩, S, H⟩
          replace n1 := n1.hold H
          replace d1 := d1.hold H
          replace n2 := n2.hold H
          replace d2 := d2.hold H
          replace nz := nz.hold H
          replace na := na.hold H
          replace nb := nb.hold H
          replace HH := HH.trans H
          clear H
          go_wp2_with fail
          refine hKK.out _ _ ⟨S.c 0 2 rfl rfl, S.c 1 2 rfl rfl⟩ (fun hS => ?_)
          clear hKK KK
          try simp only [Act.put, List.setIfInBounds_toArray, List.set_cons_zero, List.set_cons_succ]
          refine wpAnyH_take (i := 7) (v := ?_) ((List.getElem?_toArray ..).trans rfl) (by kernel_rfl) (by kernel_rfl) (by kernel_rfl) (fun _ _ _ h => h) (Or.inl ⟨rfl, fun W hW => ?_⟩) hS ?_
          rotate_left
          · obtain ⟨hW0, hW1⟩ := hW; go_simp; try first | rfl | (rw [if_neg (by first | omega | (simp only [ByteArray.size_append]; first | omega | (have h1 : (ByteArray.mk #[47]).size = 1 := rfl; omega)))]; try rfl) | kernel_rfl
          try simp only [Act.put, List.setIfInBounds_toArray, List.set_cons_zero, List.set_cons_succ]
          refine wpAnyH_take (i := 8) (v := ?_) ((List.getElem?_toArray ..).trans rfl) (by kernel_rfl) (by kernel_rfl) (by kernel_rfl) (fun _ _ _ h => h) (Or.inl ⟨rfl, fun W hW => ?_⟩) hS ?_
          rotate_left
          · obtain ⟨hW0, hW1⟩ := hW; go_simp; try first | rfl | (rw [if_neg (by first | omega | (simp only [ByteArray.size_append]; first | omega | (have h1 : (ByteArray.mk #[47]).size = 1 := rfl; omega)))]; try rfl) | kernel_rfl
          try simp only [Act.put, List.setIfInBounds_toArray, List.set_cons_zero, List.set_cons_succ]
          refine wpAnyH_take (i := 9) (v := ?_) ((List.getElem?_toArray ..).trans rfl) (by kernel_rfl) (by kernel_rfl) (by kernel_rfl) (fun _ _ _ h => h) (Or.inl ⟨rfl, fun W hW => ?_⟩) hS ?_
          rotate_left
          · obtain ⟨hW0, hW1⟩ := hW; go_simp; try first | rfl | (rw [if_neg (by first | omega | (simp only [ByteArray.size_append]; first | omega | (have h1 : (ByteArray.mk #[47]).size = 1 := rfl; omega)))]; try rfl) | kernel_rfl
          try simp only [Act.put, List.setIfInBounds_toArray, List.set_cons_zero, List.set_cons_succ]
          refine wpAnyH_ready (rs := [10]) (by kernel_rfl) (by simp) (AllReadyH.cons ((List.getElem?_toArray ..).trans rfl) (fun KK hKK => ?_) AllReadyH.nil)
          go_simp
          clear hS
          have H := S.hnew 25 [.bool false, .slice none 0 0]
          replace S := S.alloc 25 [.bool false, .slice none 0 0] (w6.heap.size)
          try simp only [List.cons_append, List.nil_append] at S
          replace n1 := n1.hold H
          replace d1 := d1.hold H
          replace n2 := n2.hold H
          replace d2 := d2.hold H
          replace nz := nz.hold H
          replace na := na.hold H
          replace nb := nb.hold H
          replace nd := nd.hold H
          replace HH := HH.trans H
          clear H
          refine hKK.out _ _ ⟨S.c 0 2 rfl rfl, S.c 1 2 rfl rfl⟩ (fun hS => ?_)
          generalize (w6.alloc (.cells #[.bool false, .slice none 0 0] 25)) = w7 at S n1 d1 n2 d2 nz na nb nd HH hS ⊢
          clear hKK KK
          try simp only [Act.put, List.setIfInBounds_toArray, List.set_cons_zero, List.set_cons_succ]
          refine wpAnyH_ready (rs := [11]) (by kernel_rfl) (by simp) (AllReadyH.cons ((List.getElem?_toArray ..).trans rfl) (fun KK hKK => ?_) AllReadyH.nil)
          have c0 := S.c 4 0 rfl rfl
          have f0 := S.f 4 0 rfl
          have c1 := S.c 4 1 rfl rfl
          have f1 := S.f 4 1 rfl
          go_simp
          clear hS c0 f0 c1 f1
          have H := S.hset 4 0 (.bool (negB D)) rfl rfl (by intro q n e; cases e)
          replace S := S.set 4 0 (.bool (negB D)) rfl
          replace n1 := n1.hold H
          replace d1 := d1.hold H
          replace n2 := n2.hold H
          replace d2 := d2.hold H
          replace nz := nz.hold H
          replace na := na.hold H
          replace nb := nb.hold H
          replace nd := nd.hold H
          replace HH := HH.trans H
          clear H
          have H := S.hset 4 1 (.slice pd ld Kd) rfl rfl (by intro q n e; cases e)
          replace S := S.set 4 1 (.slice pd ld Kd) rfl
          replace n1 := n1.hold H
          replace d1 := d1.hold H
          replace n2 := n2.hold H
          replace d2 := d2.hold H
          replace nz := nz.hold H
          replace na := na.hold H
          replace nb := nb.hold H
          replace nd := nd.hold H
          replace HH := HH.trans H
          clear H
          refine hKK.out _ _ ⟨S.c 0 2 rfl rfl, S.c 1 2 rfl rfl⟩ (fun hS => ?_)
          generalize ((w7.setCell ⟨w6.heap.size, 0, none⟩ (.bool (negB D))).setCell ⟨w6.heap.size, 1, none⟩ (.slice pd ld Kd)) = w8 at S n1 d1 n2 d2 nz na nb nd HH hS ⊢
          clear hKK KK
          try simp only [Act.put, List.setIfInBounds_toArray, List.set_cons_zero, List.set_cons_succ]
          refine wpAnyH_ready (rs := [12]) (by kernel_rfl) (by simp) (AllReadyH.cons ((List.getElem?_toArray ..).trans rfl) (fun KK hKK => ?_) AllReadyH.nil)
          go_simp
          refine hKK.out _ _ hS (fun hS => ?_)
          clear hKK KK
          try simp only [Act.put, List.setIfInBounds_toArray, List.set_cons_zero, List.set_cons_succ]
          refine wpAnyH_done (by kernel_rfl) ?_ _
          go_wp2_with fail
          go_meet
          case rel => exact ⟨w6.heap.size, pd, ld, Kd, rfl, rfl, S, nd, HH⟩
        ·
          go_simp
          clear hS
          have H := S.hnew 25 [.bool false, .slice none 0 0]
          replace S := S.alloc 25 [.bool false, .slice none 0 0] (w5.heap.size)
          try simp only [List.cons_append, List.nil_append] at S
          replace n1 := n1.hold H
          replace d1 := d1.hold H
          replace n2 := n2.hold H
          replace d2 := d2.hold H
          replace nz := nz.hold H
          replace na := na.hold H
          replace nb := nb.hold H
          replace HH := HH.trans H
          clear H
          refine hKK.out _ _ ⟨S.c 0 2 rfl rfl, S.c 1 2 rfl rfl⟩ (fun hS => ?_)
          generalize (w5.alloc (.cells #[.bool false, .slice none 0 0] 25)) = w9 at S n1 d1 n2 d2 nz na nb HH hS ⊢
          clear hKK KK
          try simp only [Act.put, List.setIfInBounds_toArray, List.set_cons_zero, List.set_cons_succ]
          refine wpAnyH_ready (rs := [6]) (by kernel_rfl) (by simp) (AllReadyH.cons ((List.getElem?_toArray ..).trans rfl) (fun KK hKK => ?_) AllReadyH.nil)
          go_simp
          clear hS
          refine (S.call (wmul_to ⟨_, _, _, rfl, na⟩ ⟨_, _, _, rfl, nb⟩ HX.out.1.2 HX.out.2.2 D HD.out.2.1 HB.out.2)).mono ?_
          clear S
          rintro e w10 ⟨⟨_, rfl, pd, ld, Kd, rfl, nd⟩, S, H⟩
          replace n1 := n1.hold H
          replace d1 := d1.hold H
          replace n2 := n2.hold H
          replace d2 := d2.hold H
          replace nz := nz.hold H
          replace na := na.hold H
          replace nb := nb.hold H
          replace HH := HH.trans H
          clear H
          go_wp2_with fail
          refine hKK.out _ _ ⟨S.c 0 2 rfl rfl, S.c 1 2 rfl rfl⟩ (fun hS => ?_)
          clear hKK KK
          try simp only [Act.put, List.setIfInBounds_toArray, List.set_cons_zero, List.set_cons_succ]
          refine wpAnyH_take (i := 7) (v := ?_) ((List.getElem?_toArray ..).trans rfl) (by kernel_rfl) (by kernel_rfl) (by kernel_rfl) (fun _ _ _ h => h) (Or.inl ⟨rfl, fun W hW => ?_⟩) hS ?_
          rotate_left
          · obtain ⟨hW0, hW1⟩ := hW; go_simp; try first | rfl | (rw [if_neg (by first | omega | (simp only [ByteArray.size_append]; first | omega | (have h1 : (ByteArray.mk #[47]).size = 1 := rfl; omega)))]; try rfl) | kernel_rfl
          try simp only [Act.put, List.setIfInBounds_toArray, List.set_cons_zero, List.set_cons_succ]
          refine wpAnyH_take (i := 8) (v := ?_) ((List.getElem?_toArray ..).trans rfl) (by kernel_rfl) (by kernel_rfl) (by kernel_rfl) (fun _ _ _ h => h) (Or.inl ⟨rfl, fun W hW => ?_⟩) hS ?_
          rotate_left
          · obtain ⟨hW0, hW1⟩ := hW; go_simp; try first | rfl | (rw [if_neg (by first | omega | (simp only [ByteArray.size_append]; first | omega | (have h1 : (ByteArray.mk #[47]).size = 1 := rfl; omega)))]; try rfl) | kernel_rfl
          try simp only [Act.put, List.setIfInBounds_toArray, List.set_cons_zero, List.set_cons_succ]
          refine wpAnyH_take (i := 9) (v := ?_) ((List.getElem?_toArray ..).trans rfl) (by kernel_rfl) (by kernel_rfl) (by kernel_rfl) (fun _ _ _ h => h) (Or.inl ⟨rfl, fun W hW => ?_⟩) hS ?_
          rotate_left
          · obtain ⟨hW0, hW1⟩ := hW; go_simp; try first | rfl | (rw [if_neg (by first | omega | (simp only [ByteArray.size_append]; first | omega | (have h1 : (ByteArray.mk #[47]).size = 1 := rfl; omega)))]; try rfl) | kernel_rfl
          try simp only [Act.put, List.setIfInBounds_toArray, List.set_cons_zero, List.set_cons_succ]
          refine wpAnyH_ready (rs := [11]) (by kernel_rfl) (by simp) (AllReadyH.cons ((List.getElem?_toArray ..).trans rfl) (fun KK hKK => ?_) AllReadyH.nil)
          have c0 := S.c 4 0 rfl rfl
          have f0 := S.f 4 0 rfl
          have c1 := S.c 4 1 rfl rfl
          have f1 := S.f 4 1 rfl
          go_simp
          clear hS c0 f0 c1 f1
          have H := S.hset 4 0 (.bool (negB D)) rfl rfl (by intro q n e; cases e)
          replace S := S.set 4 0 (.bool (negB D)) rfl
          replace n1 := n1.hold H
          replace d1 := d1.hold H
          replace n2 := n2.hold H
          replace d2 := d2.hold H
          replace nz := nz.hold H
          replace na := na.hold H
          replace nb := nb.hold H
          replace nd := nd.hold H
          replace HH := HH.trans H
          clear H
          have H := S.hset 4 1 (.slice pd ld Kd) rfl rfl (by intro q n e; cases e)
          replace S := S.set 4 1 (.slice pd ld Kd) rfl
          replace n1 := n1.hold H
          replace d1 := d1.hold H
          replace n2 := n2.hold H
          replace d2 := d2.hold H
          replace nz := nz.hold H
          replace na := na.hold H
          replace nb := nb.hold H
          replace nd := nd.hold H
          replace HH := HH.trans H
          clear H
          refine hKK.out _ _ ⟨S.c 0 2 rfl rfl, S.c 1 2 rfl rfl⟩ (fun hS => ?_)
          generalize ((w10.setCell ⟨w5.heap.size, 0, none⟩ (.bool (negB D))).setCell ⟨w5.heap.size, 1, none⟩ (.slice pd ld Kd)) = w11 at S n1 d1 n2 d2 nz na nb nd HH hS ⊢
          clear hKK KK
          try simp only [Act.put, List.setIfInBounds_toArray, List.set_cons_zero, List.set_cons_succ]
          refine wpAnyH_ready (rs := [12]) (by kernel_rfl) (by simp) (AllReadyH.cons ((List.getElem?_toArray ..).trans rfl) (fun KK hKK => ?_) AllReadyH.nil)
          go_simp
          refine hKK.out _ _ hS (fun hS => ?_)
          clear hKK KK
          try simp only [Act.put, List.setIfInBounds_toArray, List.set_cons_zero, List.set_cons_succ]
          refine wpAnyH_done (by kernel_rfl) ?_ _
          go_wp2_with fail
          go_meet
          case rel => exact ⟨w5.heap.size, pd, ld, Kd, rfl, rfl, S, nd, HH⟩
      ·
        go_simp
        clear hS
        have H := S.hnew 25 [.bool false, .slice none 0 0]
        replace S := S.alloc 25 [.bool false, .slice none 0 0] (w4.heap.size)
        try simp only [List.cons_append, List.nil_append] at S
        replace n1 := n1.hold H
        replace d1 := d1.hold H
        replace n2 := n2.hold H
        replace d2 := d2.hold H
        replace nz := nz.hold H
        replace na := na.hold H
        replace HH := HH.trans H
        clear H
        refine hKK.out _ _ ⟨S.c 0 2 rfl rfl, S.c 1 2 rfl rfl⟩ (fun hS => ?_)
        generalize (w4.alloc (.cells #[.bool false, .slice none 0 0] 25)) = w12 at S n1 d1 n2 d2 nz na HH hS ⊢
        clear hKK KK
        try simp only [Act.put, List.setIfInBounds_toArray, List.set_cons_zero, List.set_cons_succ]
        refine wpAnyH_ready (rs := [5]) (by kernel_rfl) (by simp) (AllReadyH.cons ((List.getElem?_toArray ..).trans rfl) (fun KK hKK => ?_) AllReadyH.nil)
        go_simp
        clear hS
        refine (S.call (wnat_any d2 HX.out.2.2 (y.den : Int) rfl)).mono ?_
        clear S
        rintro e w13 ⟨⟨_, rfl, pb, lb, Kb, rfl, nb⟩, S, H⟩
        replace n1 := n1.hold H
        replace d1 := d1.hold H
        replace n2 := n2.hold H
        replace d2 := d2.hold H
        replace nz := nz.hold H
        replace na := na.hold H
        replace HH := HH.trans H
        clear H
        go_wp2_with fail
        refine hKK.out _ _ ⟨S.c 0 2 rfl rfl, S.c 1 2 rfl rfl⟩ (fun hS => ?_)
        clear hKK KK
        try simp only [Act.put, List.setIfInBounds_toArray, List.set_cons_zero, List.set_cons_succ]
        refine wpAnyH_ready (rs := [6]) (by kernel_rfl) (by simp) (AllReadyH.cons ((List.getElem?_toArray ..).trans rfl) (fun KK hKK => ?_) AllReadyH.nil)
        go_simp
        clear hS
        refine (S.call (wmul_to ⟨_, _, _, rfl, na⟩ ⟨_, _, _, rfl, nb⟩ HX.out.1.2 HX.out.2.2 D HD.out.2.1 HB.out.2)).mono ?_
        clear S
        rintro e w14 ⟨⟨_, rfl, pd, ld, Kd, rfl, nd⟩, S, H⟩
        replace n1 := n1.hold H
        replace d1 := d1.hold H
        replace n2 := n2.hold H
        replace d2 := d2.hold H
        replace nz := nz.hold H
        replace na := na.hold H
        replace nb := nb.hold H
        replace HH := HH.trans H
        clear H
        go_wp2_with fail
        refine hKK.out _ _ ⟨S.c 0 2 rfl rfl, S.c 1 2 rfl rfl⟩ (fun hS => ?_)
        clear hKK KK
        try simp only [Act.put, List.setIfInBounds_toArray, List.set_cons_zero, List.set_cons_succ]
        refine wpAnyH_take (i := 7) (v := ?_) ((List.getElem?_toArray ..).trans rfl) (by kernel_rfl) (by kernel_rfl) (by kernel_rfl) (fun _ _ _ h => h) (Or.inl ⟨rfl, fun W hW => ?_⟩) hS ?_
        rotate_left
        · obtain ⟨hW0, hW1⟩ := hW; go_simp; try first | rfl | (rw [if_neg (by first | omega | (simp only [ByteArray.size_append]; first | omega | (have h1 : (ByteArray.mk #[47]).size = 1 := rfl; omega)))]; try rfl) | kernel_rfl
        try simp only [Act.put, List.setIfInBounds_toArray, List.set_cons_zero, List.set_cons_succ]
        refine wpAnyH_take (i := 8) (v := ?_) ((List.getElem?_toArray ..).trans rfl) (by kernel_rfl) (by kernel_rfl) (by kernel_rfl) (fun _ _ _ h => h) (Or.inl ⟨rfl, fun W hW => ?_⟩) hS ?_
        rotate_left
        · obtain ⟨hW0, hW1⟩ := hW; go_simp; try first | rfl | (rw [if_neg (by first | omega | (simp only [ByteArray.size_append]; first | omega | (have h1 : (ByteArray.mk #[47]).size = 1 := rfl; omega)))]; try rfl) | kernel_rfl
        try simp only [Act.put, List.setIfInBounds_toArray, List.set_cons_zero, List.set_cons_succ]
        refine wpAnyH_take (i := 9) (v := ?_) ((List.getElem?_toArray ..).trans rfl) (by kernel_rfl) (by kernel_rfl) (by kernel_rfl) (fun _ _ _ h => h) (Or.inl ⟨rfl, fun W hW => ?_⟩) hS ?_
        rotate_left
        · obtain ⟨hW0, hW1⟩ := hW; go_simp; try first | rfl | (rw [if_neg (by first | omega | (simp only [ByteArray.size_append]; first | omega | (have h1 : (ByteArray.mk #[47]).size = 1 := rfl; omega)))]; try rfl) | kernel_rfl
        try simp only [Act.put, List.setIfInBounds_toArray, List.set_cons_zero, List.set_cons_succ]
        refine wpAnyH_ready (rs := [11]) (by kernel_rfl) (by simp) (AllReadyH.cons ((List.getElem?_toArray ..).trans rfl) (fun KK hKK => ?_) AllReadyH.nil)
        have c0 := S.c 4 0 rfl rfl
        have f0 := S.f 4 0 rfl
        have c1 := S.c 4 1 rfl rfl
        have f1 := S.f 4 1 rfl
        go_simp
        clear hS c0 f0 c1 f1
        have H := S.hset 4 0 (.bool (negB D)) rfl rfl (by intro q n e; cases e)
        replace S := S.set 4 0 (.bool (negB D)) rfl
        replace n1 := n1.hold H
        replace d1 := d1.hold H
        replace n2 := n2.hold H
        replace d2 := d2.hold H
        replace nz := nz.hold H
        replace na := na.hold H
        replace nb := nb.hold H
        replace nd := nd.hold H
        replace HH := HH.trans H
        clear H
        have H := S.hset 4 1 (.slice pd ld Kd) rfl rfl (by intro q n e; cases e)
        replace S := S.set 4 1 (.slice pd ld Kd) rfl
        replace n1 := n1.hold H
        replace d1 := d1.hold H
        replace n2 := n2.hold H
        replace d2 := d2.hold H
        replace nz := nz.hold H
        replace na := na.hold H
        replace nb := nb.hold H
        replace nd := nd.hold H
        replace HH := HH.trans H
        clear H
        refine hKK.out _ _ ⟨S.c 0 2 rfl rfl, S.c 1 2 rfl rfl⟩ (fun hS => ?_)
        generalize ((w14.setCell ⟨w4.heap.size, 0, none⟩ (.bool (negB D))).setCell ⟨w4.heap.size, 1, none⟩ (.slice pd ld Kd)) = w15 at S n1 d1 n2 d2 nz na nb nd HH hS ⊢
        clear hKK KK
        try simp only [Act.put, List.setIfInBounds_toArray, List.set_cons_zero, List.set_cons_succ]
        refine wpAnyH_ready (rs := [12]) (by kernel_rfl) (by simp) (AllReadyH.cons ((List.getElem?_toArray ..).trans rfl) (fun KK hKK => ?_) AllReadyH.nil)
        go_simp
        refine hKK.out _ _ hS (fun hS => ?_)
        clear hKK KK
        try simp only [Act.put, List.setIfInBounds_toArray, List.set_cons_zero, List.set_cons_succ]
        refine wpAnyH_done (by kernel_rfl) ?_ _
        go_wp2_with fail
        go_meet
        case rel => exact ⟨w4.heap.size, pd, ld, Kd, rfl, rfl, S, nd, HH⟩
    ·
      go_simp
      clear hS
      have H := S.hnew 25 [.bool false, .slice none 0 0]
      replace S := S.alloc 25 [.bool false, .slice none 0 0] (w3.heap.size)
      try simp only [List.cons_append, List.nil_append] at S
      replace n1 := n1.hold H
      replace d1 := d1.hold H
      replace n2 := n2.hold H
      replace d2 := d2.hold H
      replace nz := nz.hold H
      replace HH := HH.trans H
      clear H
      refine hKK.out _ _ ⟨S.c 0 2 rfl rfl, S.c 1 2 rfl rfl⟩ (fun hS => ?_)
      generalize (w3.alloc (.cells #[.bool false, .slice none 0 0] 25)) = w16 at S n1 d1 n2 d2 nz HH hS ⊢
      clear hKK KK
      try simp only [Act.put, List.setIfInBounds_toArray, List.set_cons_zero, List.set_cons_succ]
      refine wpAnyH_ready (rs := [2]) (by kernel_rfl) (by simp) (AllReadyH.cons ((List.getElem?_toArray ..).trans rfl) (fun KK hKK => ?_) AllReadyH.nil)
      go_simp
      clear hS
      refine (S.call (wnat_any d1 HX.out.1.2 (x.den : Int) rfl)).mono ?_
      clear S
      rintro e w17 ⟨⟨_, rfl, pa, la, Ka, rfl, na⟩, S, H⟩
      replace n1 := n1.hold H
      replace d1 := d1.hold H
      replace n2 := n2.hold H
      replace d2 := d2.hold H
      replace nz := nz.hold H
      replace HH := HH.trans H
      clear H
      go_wp2_with fail
      refine hKK.out _ _ ⟨S.c 0 2 rfl rfl, S.c 1 2 rfl rfl⟩ (fun hS => ?_)
      clear hKK KK
      try simp only [Act.put, List.setIfInBounds_toArray, List.set_cons_zero, List.set_cons_succ]
      refine wpAnyH_ready (rs := [5]) (by kernel_rfl) (by simp) (AllReadyH.cons ((List.getElem?_toArray ..).trans rfl) (fun KK hKK => ?_) AllReadyH.nil)
      go_simp
      clear hS
      refine (S.call (wnat_any d2 HX.out.2.2 (y.den : Int) rfl)).mono ?_
      clear S
      rintro e w18 ⟨⟨_, rfl, pb, lb, Kb, rfl, nb⟩, S, H⟩
      replace n1 := n1.hold H
      replace d1 := d1.hold H
      replace n2 := n2.hold H
      replace d2 := d2.hold H
      replace nz := nz.hold H
      replace na := na.hold H
      replace HH := HH.trans H
      clear H
      go_wp2_with fail
      refine hKK.out _ _ ⟨S.c 0 2 rfl rfl, S.c 1 2 rfl rfl⟩ (fun hS => ?_)
      clear hKK KK
      try simp only [Act.put, List.setIfInBounds_toArray, List.set_cons_zero, List.set_cons_succ]
      refine wpAnyH_ready (rs := [6]) (by kernel_rfl) (by simp) (AllReadyH.cons ((List.getElem?_toArray ..).trans rfl) (fun KK hKK => ?_) AllReadyH.nil)
      go_simp
      clear hS
      refine (S.call (wmul_to ⟨_, _, _, rfl, na⟩ ⟨_, _, _, rfl, nb⟩ HX.out.1.2 HX.out.2.2 D HD.out.2.1 HB.out.2)).mono ?_
      clear S
      rintro e w19 ⟨⟨_, rfl, pd, ld, Kd, rfl, nd⟩, S, H⟩
      replace n1 := n1.hold H
      replace d1 := d1.hold H
      replace n2 := n2.hold H
      replace d2 := d2.hold H
      replace nz := nz.hold H
      replace na := na.hold H
      replace nb := nb.hold H
      replace HH := HH.trans H
      clear H
      go_wp2_with fail
      refine hKK.out _ _ ⟨S.c 0 2 rfl rfl, S.c 1 2 rfl rfl⟩ (fun hS => ?_)
      clear hKK KK
      try simp only [Act.put, List.setIfInBounds_toArray, List.set_cons_zero, List.set_cons_succ]
      refine wpAnyH_take (i := 7) (v := ?_) ((List.getElem?_toArray ..).trans rfl) (by kernel_rfl) (by kernel_rfl) (by kernel_rfl) (fun _ _ _ h => h) (Or.inl ⟨rfl, fun W hW => ?_⟩) hS ?_
      rotate_left
      · obtain ⟨hW0, hW1⟩ := hW; go_simp; try first | rfl | (rw [if_neg (by first | omega | (simp only [ByteArray.size_append]; first | omega | (have h1 : (ByteArray.mk #[47]).size = 1 := rfl; omega)))]; try rfl) | kernel_rfl
      try simp only [Act.put, List.setIfInBounds_toArray, List.set_cons_zero, List.set_cons_succ]
      refine wpAnyH_take (i := 8) (v := ?_) ((List.getElem?_toArray ..).trans rfl) (by kernel_rfl) (by kernel_rfl) (by kernel_rfl) (fun _ _ _ h => h) (Or.inl ⟨rfl, fun W hW => ?_⟩) hS ?_
      rotate_left
      · obtain ⟨hW0, hW1⟩ := hW; go_simp; try first | rfl | (rw [if_neg (by first | omega | (simp only [ByteArray.size_append]; first | omega | (have h1 : (ByteArray.mk #[47]).size = 1 := rfl; omega)))]; try rfl) | kernel_rfl
      try simp only [Act.put, List.setIfInBounds_toArray, List.set_cons_zero, List.set_cons_succ]
      refine wpAnyH_take (i := 9) (v := ?_) ((List.getElem?_toArray ..).trans rfl) (by kernel_rfl) (by kernel_rfl) (by kernel_rfl) (fun _ _ _ h => h) (Or.inl ⟨rfl, fun W hW => ?_⟩) hS ?_
      rotate_left
      · obtain ⟨hW0, hW1⟩ := hW; go_simp; try first | rfl | (rw [if_neg (by first | omega | (simp only [ByteArray.size_append]; first | omega | (have h1 : (ByteArray.mk #[47]).size = 1 := rfl; omega)))]; try rfl) | kernel_rfl
      try simp only [Act.put, List.setIfInBounds_toArray, List.set_cons_zero, List.set_cons_succ]
      refine wpAnyH_ready (rs := [11]) (by kernel_rfl) (by simp) (AllReadyH.cons ((List.getElem?_toArray ..).trans rfl) (fun KK hKK => ?_) AllReadyH.nil)
      have c0 := S.c 4 0 rfl rfl
      have f0 := S.f 4 0 rfl
      have c1 := S.c 4 1 rfl rfl
      have f1 := S.f 4 1 rfl
      go_simp
      clear hS c0 f0 c1 f1
      have H := S.hset 4 0 (.bool (negB D)) rfl rfl (by intro q n e; cases e)
      replace S := S.set 4 0 (.bool (negB D)) rfl
      replace n1 := n1.hold H
      replace d1 := d1.hold H
      replace n2 := n2.hold H
      replace d2 := d2.hold H
      replace nz := nz.hold H
      replace na := na.hold H
      replace nb := nb.hold H
      replace nd := nd.hold H
      replace HH := HH.trans H
      clear H
      have H := S.hset 4 1 (.slice pd ld Kd) rfl rfl (by intro q n e; cases e)
      replace S := S.set 4 1 (.slice pd ld Kd) rfl
      replace n1 := n1.hold H
      replace d1 := d1.hold H
      replace n2 := n2.hold H
      replace d2 := d2.hold H
      replace nz := nz.hold H
      replace na := na.hold H
      replace nb := nb.hold H
      replace nd := nd.hold H
      replace HH := HH.trans H
      clear H
      refine hKK.out _ _ ⟨S.c 0 2 rfl rfl, S.c 1 2 rfl rfl⟩ (fun hS => ?_)
      generalize ((w19.setCell ⟨w3.heap.size, 0, none⟩ (.bool (negB D))).setCell ⟨w3.heap.size, 1, none⟩ (.slice pd ld Kd)) = w20 at S n1 d1 n2 d2 nz na nb nd HH hS ⊢
      clear hKK KK
      try simp only [Act.put, List.setIfInBounds_toArray, List.set_cons_zero, List.set_cons_succ]
      refine wpAnyH_ready (rs := [12]) (by kernel_rfl) (by simp) (AllReadyH.cons ((List.getElem?_toArray ..).trans rfl) (fun KK hKK => ?_) AllReadyH.nil)
      go_simp
      refine hKK.out _ _ hS (fun hS => ?_)
      clear hKK KK
      try simp only [Act.put, List.setIfInBounds_toArray, List.set_cons_zero, List.set_cons_succ]
      refine wpAnyH_done (by kernel_rfl) ?_ _
      go_wp2_with fail
      go_meet
      case rel => exact ⟨w3.heap.size, pd, ld, Kd, rfl, rfl, S, nd, HH⟩
  case rest =>
    obtain ⟨g8, pd, ld, Kd, rfl, rfl, S, nd, HH⟩ := hcut
    obtain ⟨w21, rfl⟩ : ∃ W : World, W = wc := ⟨_, rfl⟩
    replace n1 := n1.hold HH
    replace d1 := d1.hold HH
    replace n2 := n2.hold HH
    replace d2 := d2.hold HH
    replace nz := nz.hold HH
    clear HH
    have c0_0 := S.c 0 0 rfl rfl
    have c0_1 := S.c 0 1 rfl rfl
    have c0_2 := S.c 0 2 rfl rfl
    have c1_0 := S.c 1 0 rfl rfl
    have c1_1 := S.c 1 1 rfl rfl
    have c1_2 := S.c 1 2 rfl rfl
    have c2_0 := S.c 2 0 rfl rfl
    have c2_1 := S.c 2 1 rfl rfl
    have c2_2 := S.c 2 2 rfl rfl
    have c3_0 := S.c 3 0 rfl rfl
    have c3_1 := S.c 3 1 rfl rfl
    have c4_0 := S.c 4 0 rfl rfl
    have c4_1 := S.c 4 1 rfl rfl
    go_upto_region 3 with fail
    clear c0_0 c0_1 c0_2 c1_0 c1_1 c1_2 c2_0 c2_1 c2_2 c3_0 c3_1 c4_0 c4_1
    have HH := Hold.drew w21
    replace n1 := n1.hold HH
    replace d1 := d1.hold HH
    replace n2 := n2.hold HH
    replace d2 := d2.hold HH
    replace nz := nz.hold HH
    replace nd := nd.hold HH
    replace S := S.drew
    refine wp_region_held_drew (S := fun W => W.cell? ⟨w1.heap.size, 0, none⟩ = some (.bool (negB Z)) ∧ W.cell? ⟨w1.heap.size, 1, none⟩ = some (.slice pz lz Kz) ∧ W.cell? ⟨g8, 0, none⟩ = some (.bool (negB D)) ∧ W.cell? ⟨g8, 1, none⟩ = some (.slice pd ld Kd)) (by kernel_rfl) ⟨S.c 3 0 rfl rfl, S.c 3 1 rfl rfl, S.c 4 0 rfl rfl, S.c 4 1 rfl rfl⟩ (fun hS => ?_)
    generalize w21.drew = w22 at S n1 d1 n2 d2 nz nd HH hS ⊢
    refine wpAnyH_take (i := 0) (v := ?_) ((List.getElem?_toArray ..).trans rfl) (by kernel_rfl) (by kernel_rfl) (by kernel_rfl) (fun _ _ _ h => h) (Or.inl ⟨rfl, fun W hW => ?_⟩) hS ?_
    rotate_left
    · obtain ⟨hW0, hW1, hW2, hW3⟩ := hW; go_simp; try first | rfl | (rw [if_neg (by first | omega | (simp only [ByteArray.size_append]; first | omega | (have h1 : (ByteArray.mk #[47]).size = 1 := rfl; omega)))]; try rfl) | kernel_rfl
    try simp only [Act.put, List.setIfInBounds_toArray, List.set_cons_zero, List.set_cons_succ]
    refine wpAnyH_take (i := 1) (v := ?_) ((List.getElem?_toArray ..).trans rfl) (by kernel_rfl) (by kernel_rfl) (by kernel_rfl) (fun _ _ _ h => h) (Or.inl ⟨rfl, fun W hW => ?_⟩) hS ?_
    rotate_left
    · obtain ⟨hW0, hW1, hW2, hW3⟩ := hW; go_simp; try first | rfl | (rw [if_neg (by first | omega | (simp only [ByteArray.size_append]; first | omega | (have h1 : (ByteArray.mk #[47]).size = 1 := rfl; omega)))]; try rfl) | kernel_rfl
    try simp only [Act.put, List.setIfInBounds_toArray, List.set_cons_zero, List.set_cons_succ]
    refine wpAnyH_take (i := 2) (v := ?_) ((List.getElem?_toArray ..).trans rfl) (by kernel_rfl) (by kernel_rfl) (by kernel_rfl) (fun _ _ _ h => h) (Or.inl ⟨rfl, fun W hW => ?_⟩) hS ?_
    rotate_left
    · obtain ⟨hW0, hW1, hW2, hW3⟩ := hW; go_simp; try first | rfl | (rw [if_neg (by first | omega | (simp only [ByteArray.size_append]; first | omega | (have h1 : (ByteArray.mk #[47]).size = 1 := rfl; omega)))]; try rfl) | kernel_rfl
    try simp only [Act.put, List.setIfInBounds_toArray, List.set_cons_zero, List.set_cons_succ]
    refine wpAnyH_take (i := 3) (v := ?_) ((List.getElem?_toArray ..).trans rfl) (by kernel_rfl) (by kernel_rfl) (by kernel_rfl) (fun _ _ _ h => h) (Or.inl ⟨rfl, fun W hW => ?_⟩) hS ?_
    rotate_left
    · obtain ⟨hW0, hW1, hW2, hW3⟩ := hW; go_simp; try first | rfl | (rw [if_neg (by first | omega | (simp only [ByteArray.size_append]; first | omega | (have h1 : (ByteArray.mk #[47]).size = 1 := rfl; omega)))]; try rfl) | kernel_rfl
    try simp only [Act.put, List.setIfInBounds_toArray, List.set_cons_zero, List.set_cons_succ]
    refine wpAnyH_ready (rs := [4]) (by kernel_rfl) (by simp) (AllReadyH.cons ((List.getElem?_toArray ..).trans rfl) (fun KK hKK => ?_) AllReadyH.nil)
    go_simp
    clear hS
    have H := S.hnew 31 [.int .i64 0, .int .i64 0]
    replace S := S.alloc 31 [.int .i64 0, .int .i64 0] (w22.heap.size)
    try simp only [List.cons_append, List.nil_append] at S
    replace n1 := n1.hold H
    replace d1 := d1.hold H
    replace n2 := n2.hold H
    replace d2 := d2.hold H
    replace nz := nz.hold H
    replace nd := nd.hold H
    replace HH := HH.trans H
    clear H
    refine hKK.out _ _ ⟨S.c 3 0 rfl rfl, S.c 3 1 rfl rfl, S.c 4 0 rfl rfl, S.c 4 1 rfl rfl⟩ (fun hS => ?_)
    generalize (w22.alloc (.cells #[.int .i64 0, .int .i64 0] 31)) = w23 at S n1 d1 n2 d2 nz nd HH hS ⊢
    clear hKK KK
    try simp only [Act.put, List.setIfInBounds_toArray, List.set_cons_zero, List.set_cons_succ]
    refine wpAnyH_ready (rs := [5]) (by kernel_rfl) (by simp) (AllReadyH.cons ((List.getElem?_toArray ..).trans rfl) (fun KK hKK => ?_) AllReadyH.nil)
    go_simp
    clear hS
    refine (S.call (or_two S 5 rfl)).mono ?_
    clear S
    rintro e w24 ⟨rfl, S, H⟩
    replace n1 := n1.hold H
    replace d1 := d1.hold H
    replace n2 := n2.hold H
    replace d2 := d2.hold H
    replace nz := nz.hold H
    replace nd := nd.hold H
    replace HH := HH.trans H
    clear H
    go_wp2_with fail
    refine hKK.out _ _ ⟨S.c 3 0 rfl rfl, S.c 3 1 rfl rfl, S.c 4 0 rfl rfl, S.c 4 1 rfl rfl⟩ (fun hS => ?_)
    clear hKK KK
    try simp only [Act.put, List.setIfInBounds_toArray, List.set_cons_zero, List.set_cons_succ]
    refine wpAnyH_ready (rs := [6]) (by kernel_rfl) (by simp) (AllReadyH.cons ((List.getElem?_toArray ..).trans rfl) (fun KK hKK => ?_) AllReadyH.nil)
    go_simp
    clear hS
    refine (S.call (over_any ⟨_, _, _, rfl, nz⟩ ⟨_, _, _, rfl, nd⟩ HB.out.1 HB.out.2 HD.out.2.2.2 q HD.out.2.2.1)).mono ?_
    clear S
    rintro e w25 ⟨⟨_, rfl, b, p, l, K, q', j, J, rfl, hb, nn, dd⟩, S, H⟩
    replace n1 := n1.hold H
    replace d1 := d1.hold H
    replace n2 := n2.hold H
    replace d2 := d2.hold H
    replace nz := nz.hold H
    replace nd := nd.hold H
    replace HH := HH.trans H
    clear H
    go_wp2_with fail
    refine hKK.out _ _ ⟨S.c 3 0 rfl rfl, S.c 3 1 rfl rfl, S.c 4 0 rfl rfl, S.c 4 1 rfl rfl⟩ (fun hS => ?_)
    clear hKK KK
    try simp only [Act.put, List.setIfInBounds_toArray, List.set_cons_zero, List.set_cons_succ]
    refine wpAnyH_take (i := 7) (v := ?_) ((List.getElem?_toArray ..).trans rfl) (by kernel_rfl) (by kernel_rfl) (by kernel_rfl) (fun _ _ _ h => h) (Or.inl ⟨rfl, fun W hW => ?_⟩) hS ?_
    rotate_left
    · obtain ⟨hW0, hW1, hW2, hW3⟩ := hW; go_simp; try first | rfl | (rw [if_neg (by first | omega | (simp only [ByteArray.size_append]; first | omega | (have h1 : (ByteArray.mk #[47]).size = 1 := rfl; omega)))]; try rfl) | kernel_rfl
    try simp only [Act.put, List.setIfInBounds_toArray, List.set_cons_zero, List.set_cons_succ]
    refine wpAnyH_take (i := 8) (v := ?_) ((List.getElem?_toArray ..).trans rfl) (by kernel_rfl) (by kernel_rfl) (by kernel_rfl) (fun _ _ _ h => h) (Or.inl ⟨rfl, fun W hW => ?_⟩) hS ?_
    rotate_left
    · obtain ⟨hW0, hW1, hW2, hW3⟩ := hW; go_simp; try first | rfl | (rw [if_neg (by first | omega | (simp only [ByteArray.size_append]; first | omega | (have h1 : (ByteArray.mk #[47]).size = 1 := rfl; omega)))]; try rfl) | kernel_rfl
    try simp only [Act.put, List.setIfInBounds_toArray, List.set_cons_zero, List.set_cons_succ]
    refine wpAnyH_ready (rs := [9]) (by kernel_rfl) (by simp) (AllReadyH.cons ((List.getElem?_toArray ..).trans rfl) (fun KK hKK => ?_) AllReadyH.nil)
    have c0 := S.c 2 0 rfl rfl
    have f0 := S.f 2 0 rfl
    have c1 := S.c 2 1 rfl rfl
    have f1 := S.f 2 1 rfl
    have c2 := S.c 2 2 rfl rfl
    have f2 := S.f 2 2 rfl
    go_simp
    clear hS c0 f0 c1 f1 c2 f2
    have H := S.hset 2 0 (.bool b) rfl rfl (by intro q n e; cases e)
    replace S := S.set 2 0 (.bool b) rfl
    replace n1 := n1.hold H
    replace d1 := d1.hold H
    replace n2 := n2.hold H
    replace d2 := d2.hold H
    replace nz := nz.hold H
    replace nd := nd.hold H
    replace nn := nn.hold H
    replace dd := dd.hold H
    replace HH := HH.trans H
    clear H
    have H := S.hset 2 1 (.slice p l K) rfl rfl (by intro q n e; cases e)
    replace S := S.set 2 1 (.slice p l K) rfl
    replace n1 := n1.hold H
    replace d1 := d1.hold H
    replace n2 := n2.hold H
    replace d2 := d2.hold H
    replace nz := nz.hold H
    replace nd := nd.hold H
    replace nn := nn.hold H
    replace dd := dd.hold H
    replace HH := HH.trans H
    clear H
    have H := S.hset 2 2 (.slice q' j J) rfl rfl (by intro q n e; cases e)
    replace S := S.set 2 2 (.slice q' j J) rfl
    replace n1 := n1.hold H
    replace d1 := d1.hold H
    replace n2 := n2.hold H
    replace d2 := d2.hold H
    replace nz := nz.hold H
    replace nd := nd.hold H
    replace nn := nn.hold H
    replace dd := dd.hold H
    replace HH := HH.trans H
    clear H
    refine hKK.out _ _ ⟨S.c 3 0 rfl rfl, S.c 3 1 rfl rfl, S.c 4 0 rfl rfl, S.c 4 1 rfl rfl⟩ (fun hS => ?_)
    generalize (((w25.setCell ⟨w.heap.size + 1 + 1, 0, none⟩ (.bool b)).setCell ⟨w.heap.size + 1 + 1, 1, none⟩ (.slice p l K)).setCell ⟨w.heap.size + 1 + 1, 2, none⟩ (.slice q' j J)) = w26 at S n1 d1 n2 d2 nz nd nn dd HH hS ⊢
    clear hKK KK
    try simp only [Act.put, List.setIfInBounds_toArray, List.set_cons_zero, List.set_cons_succ]
    refine wpAnyH_ready (rs := [10]) (by kernel_rfl) (by simp) (AllReadyH.cons ((List.getElem?_toArray ..).trans rfl) (fun KK hKK => ?_) AllReadyH.nil)
    go_simp
    refine hKK.out _ _ hS (fun hS => ?_)
    clear hKK KK
    try simp only [Act.put, List.setIfInBounds_toArray, List.set_cons_zero, List.set_cons_succ]
    refine wpAnyH_done (by kernel_rfl) ?_ _
    clear hS HH
    have c0_0 := S.c 0 0 rfl rfl
    have c0_1 := S.c 0 1 rfl rfl
    have c0_2 := S.c 0 2 rfl rfl
    have c1_0 := S.c 1 0 rfl rfl
    have c1_1 := S.c 1 1 rfl rfl
    have c1_2 := S.c 1 2 rfl rfl
    have c2_0 := S.c 2 0 rfl rfl
    have c2_1 := S.c 2 1 rfl rfl
    have c2_2 := S.c 2 2 rfl rfl
    have c3_0 := S.c 3 0 rfl rfl
    have c3_1 := S.c 3 1 rfl rfl
    have c4_0 := S.c 4 0 rfl rfl
    have c4_1 := S.c 4 1 rfl rfl
    go_wp2_with fail
    have d2_0 := S.c 2 0 rfl rfl
    have d2_1 := S.c 2 1 rfl rfl
    have d2_2 := S.c 2 2 rfl rfl
    exact bodyPost_ret (v := .tuple #[.agg #[.bool b, .slice p l K, .slice q' j J], .int .i64 0]) (by simp [results, Tryz.f20, go_sem, d2_0, d2_1, d2_2]) rfl (⟨⟨_, rfl, b, p, l, K, q', j, J, rfl, hb, nn, dd⟩, S.below⟩)

end Go.Proofs.YtggnjlbnfgjgdaaGreat

namespace Go.Proofs.YtggnjlbnfgjgdaaGreat
open Go.RowKit

set_option maxRecDepth 100000 in
set_option maxHeartbeats 4000000 in
theorem rneg_any {va : Value} {x : Rat} {w : World} (ha : IsRat w va x) (hx : x.num.natAbs < maxN ∧ x.den < maxN) (q : Rat) (hq : -x = q) :
    Calls Tryz.prog 27 #[va] w fun e w' => (∃ u, e = .returned u ∧ IsRat w' u q) ∧ Below w.heap.size w w' := by
  obtain ⟨b1, p1, l1, K1, q1, j1, J1, rfl, hb1, n1, d1⟩ := ha
  have HX := Lib.hid hx
  have HQ := Lib.hid (And.intro (show q.num = -x.num by rw [← hq, Rat.neg_num]) (show q.den = x.den by rw [← hq, Rat.neg_den]))
  clear hx hq
  have S := ((St.start w).alloc 27 [.bool b1, .slice p1 l1 K1, .slice q1 j1 J1] (w.heap.size)).alloc 27 [.bool false, .slice none 0 0, .slice none 0 0] (w.heap.size + 1)
  try simp only [List.cons_append, List.nil_append] at S
  replace n1 := n1.hold S.hold
  replace d1 := d1.hold S.hold
  have c0_0 := S.c 0 0 rfl rfl
  have c0_1 := S.c 0 1 rfl rfl
  have c0_2 := S.c 0 2 rfl rfl
  have c1_0 := S.c 1 0 rfl rfl
  have c1_1 := S.c 1 1 rfl rfl
  have c1_2 := S.c 1 2 rfl rfl
  go_enter Tryz.func27, Tryz.ntmps27
  go_upto_region 1 with fail
  clear c0_0 c0_1 c0_2 c1_0 c1_1 c1_2
  generalize ((w.alloc (.cells #[.bool b1, .slice p1 l1 K1, .slice q1 j1 J1] 27)).alloc (.cells #[.bool false, .slice none 0 0, .slice none 0 0] 27)) = w1 at S n1 d1 ⊢
  have HH := Hold.drew w1
  replace n1 := n1.hold HH
  replace d1 := d1.hold HH
  replace S := S.drew
  refine wp_region_held_drew (S := fun W => W.cell? ⟨w.heap.size, 0, none⟩ = some (.bool b1) ∧ W.cell? ⟨w.heap.size, 1, none⟩ = some (.slice p1 l1 K1) ∧ W.cell? ⟨w.heap.size, 2, none⟩ = some (.slice q1 j1 J1)) (by kernel_rfl) ⟨S.c 0 0 rfl rfl, S.c 0 1 rfl rfl, S.c 0 2 rfl rfl⟩ (fun hS => ?_)
  generalize w1.drew = w2 at S n1 d1 HH hS ⊢
  refine wpAnyH_take (i := 0) (v := ?_) ((List.getElem?_toArray ..).trans rfl) (by kernel_rfl) (by kernel_rfl) (by kernel_rfl) (fun _ _ _ h => h) (Or.inl ⟨rfl, fun W hW => ?_⟩) hS ?_
  rotate_left
  · obtain ⟨hW0, hW1, hW2⟩ := hW; go_simp; try first | rfl | (rw [if_neg (by first | omega | (simp only [ByteArray.size_append]; first | omega | (have h1 : (ByteArray.mk #[47]).size = 1 := rfl; omega)))]; try rfl) | kernel_rfl
  try simp only [Act.put, List.setIfInBounds_toArray, List.set_cons_zero, List.set_cons_succ]
  refine wpAnyH_take (i := 1) (v := ?_) ((List.getElem?_toArray ..).trans rfl) (by kernel_rfl) (by kernel_rfl) (by kernel_rfl) (fun _ _ _ h => h) (Or.inl ⟨rfl, fun W hW => ?_⟩) hS ?_
  rotate_left
  · obtain ⟨hW0, hW1, hW2⟩ := hW; go_simp; try first | rfl | (rw [if_neg (by first | omega | (simp only [ByteArray.size_append]; first | omega | (have h1 : (ByteArray.mk #[47]).size = 1 := rfl; omega)))]; try rfl) | kernel_rfl
  try simp only [Act.put, List.setIfInBounds_toArray, List.set_cons_zero, List.set_cons_succ]
  refine wpAnyH_take (i := 3) (v := ?_) ((List.getElem?_toArray ..).trans rfl) (by kernel_rfl) (by kernel_rfl) (by kernel_rfl) (fun _ _ _ h => h) (Or.inl ⟨rfl, fun W hW => ?_⟩) hS ?_
  rotate_left
  · obtain ⟨hW0, hW1, hW2⟩ := hW; go_simp; try first | rfl | (rw [if_neg (by first | omega | (simp only [ByteArray.size_append]; first | omega | (have h1 : (ByteArray.mk #[47]).size = 1 := rfl; omega)))]; try rfl) | kernel_rfl
  try simp only [Act.put, List.setIfInBounds_toArray, List.set_cons_zero, List.set_cons_succ]
  refine wpAnyH_take (i := 4) (v := ?_) ((List.getElem?_toArray ..).trans rfl) (by kernel_rfl) (by kernel_rfl) (by kernel_rfl) (fun _ _ _ h => h) (Or.inl ⟨rfl, fun W hW => ?_⟩) hS ?_
  rotate_left
  · obtain ⟨hW0, hW1, hW2⟩ := hW; go_simp; try first | rfl | (rw [if_neg (by first | omega | (simp only [ByteArray.size_append]; first | omega | (have h1 : (ByteArray.mk #[47]).size = 1 := rfl; omega)))]; try rfl) | kernel_rfl
  try simp only [Act.put, List.setIfInBounds_toArray, List.set_cons_zero, List.set_cons_succ]
  refine wpAnyH_ready (rs := [2]) (by kernel_rfl) (by simp) (AllReadyH.cons ((List.getElem?_toArray ..).trans rfl) (fun KK hKK => ?_) AllReadyH.nil)
  go_simp
  clear hS
  refine (S.call (wneg_to ⟨_, _, _, by rw [hb1.out], n1⟩ HX.out.1 (-x.num) rfl)).mono ?_
  clear S
  rintro e w3 ⟨⟨_, rfl, pa, la, Ka, rfl, na⟩, S, H⟩
  replace n1 := n1.hold H
  replace d1 := d1.hold H
  replace HH := HH.trans H
  clear H
  go_wp2_with fail
  refine hKK.out _ _ ⟨S.c 0 0 rfl rfl, S.c 0 1 rfl rfl, S.c 0 2 rfl rfl⟩ (fun hS => ?_)
  clear hKK KK
  try simp only [Act.put, List.setIfInBounds_toArray, List.set_cons_zero, List.set_cons_succ]
  refine wpAnyH_ready (rs := [5]) (by kernel_rfl) (by simp) (AllReadyH.cons ((List.getElem?_toArray ..).trans rfl) (fun KK hKK => ?_) AllReadyH.nil)
  go_simp
  clear hS
  refine (S.call (clone_any d1 HX.out.2)).mono ?_
  clear S
  rintro e w4 ⟨⟨_, rfl, nc⟩, S, H⟩
  replace n1 := n1.hold H
  replace d1 := d1.hold H
  replace na := na.hold H
  replace HH := HH.trans H
  clear H
  obtain ⟨pc, lc, Kc, rfl⟩ := nc.form
  go_wp2_with fail
  refine hKK.out _ _ ⟨S.c 0 0 rfl rfl, S.c 0 1 rfl rfl, S.c 0 2 rfl rfl⟩ (fun hS => ?_)
  clear hKK KK
  try simp only [Act.put, List.setIfInBounds_toArray, List.set_cons_zero, List.set_cons_succ]
  refine wpAnyH_take (i := 6) (v := ?_) ((List.getElem?_toArray ..).trans rfl) (by kernel_rfl) (by kernel_rfl) (by kernel_rfl) (fun _ _ _ h => h) (Or.inl ⟨rfl, fun W hW => ?_⟩) hS ?_
  rotate_left
  · obtain ⟨hW0, hW1, hW2⟩ := hW; go_simp; try first | rfl | (rw [if_neg (by first | omega | (simp only [ByteArray.size_append]; first | omega | (have h1 : (ByteArray.mk #[47]).size = 1 := rfl; omega)))]; try rfl) | kernel_rfl
  try simp only [Act.put, List.setIfInBounds_toArray, List.set_cons_zero, List.set_cons_succ]
  refine wpAnyH_ready (rs := [7]) (by kernel_rfl) (by simp) (AllReadyH.cons ((List.getElem?_toArray ..).trans rfl) (fun KK hKK => ?_) AllReadyH.nil)
  have c0 := S.c 1 0 rfl rfl
  have f0 := S.f 1 0 rfl
  have c1 := S.c 1 1 rfl rfl
  have f1 := S.f 1 1 rfl
  have c2 := S.c 1 2 rfl rfl
  have f2 := S.f 1 2 rfl
  go_simp
  clear hS c0 f0 c1 f1 c2 f2
  have H := S.hset 1 0 (.bool (negB (-x.num))) rfl rfl (by intro q n e; cases e)
  replace S := S.set 1 0 (.bool (negB (-x.num))) rfl
  replace n1 := n1.hold H
  replace d1 := d1.hold H
  replace na := na.hold H
  replace nc := nc.hold H
  replace HH := HH.trans H
  clear H
  have H := S.hset 1 1 (.slice pa la Ka) rfl rfl (by intro q n e; cases e)
  replace S := S.set 1 1 (.slice pa la Ka) rfl
  replace n1 := n1.hold H
  replace d1 := d1.hold H
  replace na := na.hold H
  replace nc := nc.hold H
  replace HH := HH.trans H
  clear H
  have H := S.hset 1 2 (.slice pc lc Kc) rfl rfl (by intro q n e; cases e)
  replace S := S.set 1 2 (.slice pc lc Kc) rfl
  replace n1 := n1.hold H
  replace d1 := d1.hold H
  replace na := na.hold H
  replace nc := nc.hold H
  replace HH := HH.trans H
  clear H
  refine hKK.out _ _ ⟨S.c 0 0 rfl rfl, S.c 0 1 rfl rfl, S.c 0 2 rfl rfl⟩ (fun hS => ?_)
  generalize (((w4.setCell ⟨w.heap.size + 1, 0, none⟩ (.bool (negB (-x.num)))).setCell ⟨w.heap.size + 1, 1, none⟩ (.slice pa la Ka)).setCell ⟨w.heap.size + 1, 2, none⟩ (.slice pc lc Kc)) = w5 at S n1 d1 na nc HH hS ⊢
  clear hKK KK
  try simp only [Act.put, List.setIfInBounds_toArray, List.set_cons_zero, List.set_cons_succ]
  refine wpAnyH_done (by kernel_rfl) ?_ _
  clear hS HH
  have c0_0 := S.c 0 0 rfl rfl
  have c0_1 := S.c 0 1 rfl rfl
  have c0_2 := S.c 0 2 rfl rfl
  have c1_0 := S.c 1 0 rfl rfl
  have c1_1 := S.c 1 1 rfl rfl
  have c1_2 := S.c 1 2 rfl rfl
  go_wp2_with fail
  have d1_0 := S.c 1 0 rfl rfl
  have d1_1 := S.c 1 1 rfl rfl
  have d1_2 := S.c 1 2 rfl rfl
  exact bodyPost_ret (v := .agg #[.bool (negB (-x.num)), .slice pa la Ka, .slice pc lc Kc]) (by simp [results, Tryz.f27, go_sem, d1_0, d1_1, d1_2]) rfl (⟨⟨_, rfl, _, pa, la, Ka, pc, lc, Kc, rfl, by rw [HQ.out.1]; rfl, by rw [HQ.out.1]; exact na, by rw [HQ.out.2]; exact nc⟩, S.below⟩)

end Go.Proofs.YtggnjlbnfgjgdaaGreat
