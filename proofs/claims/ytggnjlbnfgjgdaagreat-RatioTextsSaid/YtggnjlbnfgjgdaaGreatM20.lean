/-
  ratio.Sub. ratio.Abs. ratio.Compare. ratio.Div. ratio.Floor, Ceil. ratio.Of. ratio.Check. All calls of package ratio that reckon. ratio.Check of whatever is handed in. girdlelaw04.fit and same; lists of ratios; ratio.Sum. Short lists of ratios, as a call lays them. ratio.Make over nothing, ratio.Div by nothing. Ratios: their order, what lies between two, and roundings, as plain numbers.
-/
import Derived.Test.YtggnjlbnfgjgdaaGreatM14
import Derived.Test.YtggnjlbnfgjgdaaGreatM19

namespace Go.Proofs.YtggnjlbnfgjgdaaGreat
open Go.RowKit

set_option maxRecDepth 100000 in
set_option maxHeartbeats 4000000 in
theorem rsub_any {va vb : Value} {x y : Rat} {w : World} (ha : IsRat w va x) (hb : IsRat w vb y) {k1 k2 : Nat} (hx : RB x k1) (hy : RB y k2) (hk : k1 + k2 ≤ 511) (q : Rat) (hq : x - y = q) :
    Calls Tryz.prog 19 #[va, vb] w fun e w' => (∃ u, e = .returned (.tuple #[u, .int .i64 0]) ∧ IsRat w' u q) ∧ Below w.heap.size w w' := by
  obtain ⟨b1, p1, l1, K1, q1, j1, J1, rfl, hb1, n1, d1⟩ := ha
  obtain ⟨b2, p2, l2, K2, q2, j2, J2, rfl, hb2, n2, d2⟩ := hb
  have HB := Lib.hid (And.intro hx (And.intro hy hk))
  have HY := Lib.hid (rb_max hy (by omega))
  have HQ := Lib.hid (show x + -y = q by rw [← Rat.sub_eq_add_neg]; exact hq)
  clear hx hy hk hq
  have S := (((St.start w).alloc 27 [.bool b1, .slice p1 l1 K1, .slice q1 j1 J1] (w.heap.size)).alloc 27 [.bool b2, .slice p2 l2 K2, .slice q2 j2 J2] (w.heap.size + 1)).alloc 27 [.bool false, .slice none 0 0, .slice none 0 0] (w.heap.size + 1 + 1)
  try simp only [List.cons_append, List.nil_append] at S
  replace n1 := n1.hold S.hold
  replace d1 := d1.hold S.hold
  replace n2 := n2.hold S.hold
  replace d2 := d2.hold S.hold
  have c0_0 := S.c 0 0 rfl rfl
  have c0_1 := S.c 0 1 rfl rfl
  have c0_2 := S.c 0 2 rfl rfl
  have c1_0 := S.c 1 0 rfl rfl
  have c1_1 := S.c 1 1 rfl rfl
  have c1_2 := S.c 1 2 rfl rfl
  have c2_0 := S.c 2 0 rfl rfl
  have c2_1 := S.c 2 1 rfl rfl
  have c2_2 := S.c 2 2 rfl rfl
  go_enter Tryz.func19, Tryz.ntmps19
  go_upto_region 1 with fail
  clear c0_0 c0_1 c0_2 c1_0 c1_1 c1_2 c2_0 c2_1 c2_2
  generalize (((w.alloc (.cells #[.bool b1, .slice p1 l1 K1, .slice q1 j1 J1] 27)).alloc (.cells #[.bool b2, .slice p2 l2 K2, .slice q2 j2 J2] 27)).alloc (.cells #[.bool false, .slice none 0 0, .slice none 0 0] 27)) = w1 at S n1 d1 n2 d2 ⊢
  have HH := Hold.drew w1
  replace n1 := n1.hold HH
  replace d1 := d1.hold HH
  replace n2 := n2.hold HH
  replace d2 := d2.hold HH
  replace S := S.drew
  refine wp_region_held_drew (S := fun W => W.cell? ⟨w.heap.size, 0, none⟩ = some (.bool b1) ∧ W.cell? ⟨w.heap.size, 1, none⟩ = some (.slice p1 l1 K1) ∧ W.cell? ⟨w.heap.size, 2, none⟩ = some (.slice q1 j1 J1) ∧ W.cell? ⟨w.heap.size + 1, 0, none⟩ = some (.bool b2) ∧ W.cell? ⟨w.heap.size + 1, 1, none⟩ = some (.slice p2 l2 K2) ∧ W.cell? ⟨w.heap.size + 1, 2, none⟩ = some (.slice q2 j2 J2)) (by kernel_rfl) ⟨S.c 0 0 rfl rfl, S.c 0 1 rfl rfl, S.c 0 2 rfl rfl, S.c 1 0 rfl rfl, S.c 1 1 rfl rfl, S.c 1 2 rfl rfl⟩ (fun hS => ?_)
  generalize w1.drew = w2 at S n1 d1 n2 d2 HH hS ⊢
  refine wpAnyH_take (i := 0) (v := ?_) ((List.getElem?_toArray ..).trans rfl) (by kernel_rfl) (by kernel_rfl) (by kernel_rfl) (fun _ _ _ h => h) (Or.inl ⟨rfl, fun W hW => ?_⟩) hS ?_
  rotate_left
  · obtain ⟨hW0, hW1, hW2, hW3, hW4, hW5⟩ := hW; go_simp; try first | rfl | (rw [if_neg (by first | omega | (simp only [ByteArray.size_append]; first | omega | (have h1 : (ByteArray.mk #[47]).size = 1 := rfl; omega)))]; try rfl) | kernel_rfl
  try simp only [Act.put, List.setIfInBounds_toArray, List.set_cons_zero, List.set_cons_succ]
  refine wpAnyH_take (i := 1) (v := ?_) ((List.getElem?_toArray ..).trans rfl) (by kernel_rfl) (by kernel_rfl) (by kernel_rfl) (fun _ _ _ h => h) (Or.inl ⟨rfl, fun W hW => ?_⟩) hS ?_
  rotate_left
  · obtain ⟨hW0, hW1, hW2, hW3, hW4, hW5⟩ := hW; go_simp; try first | rfl | (rw [if_neg (by first | omega | (simp only [ByteArray.size_append]; first | omega | (have h1 : (ByteArray.mk #[47]).size = 1 := rfl; omega)))]; try rfl) | kernel_rfl
  try simp only [Act.put, List.setIfInBounds_toArray, List.set_cons_zero, List.set_cons_succ]
  refine wpAnyH_ready (rs := [2]) (by kernel_rfl) (by simp) (AllReadyH.cons ((List.getElem?_toArray ..).trans rfl) (fun KK hKK => ?_) AllReadyH.nil)
  go_simp
  clear hS
  refine (S.call (rneg_any ⟨b2, p2, l2, K2, q2, j2, J2, rfl, hb2, n2, d2⟩ HY.out (-y) rfl)).mono ?_
  clear S
  rintro e w3 ⟨⟨_, rfl, ba, pa, la, Ka, qa, ja, Ja, rfl, ha, na, da⟩, S, H⟩
  replace n1 := n1.hold H
  replace d1 := d1.hold H
  replace n2 := n2.hold H
  replace d2 := d2.hold H
  replace HH := HH.trans H
  clear H
  go_wp2_with fail
  refine hKK.out _ _ ⟨S.c 0 0 rfl rfl, S.c 0 1 rfl rfl, S.c 0 2 rfl rfl, S.c 1 0 rfl rfl, S.c 1 1 rfl rfl, S.c 1 2 rfl rfl⟩ (fun hS => ?_)
  clear hKK KK
  try simp only [Act.put, List.setIfInBounds_toArray, List.set_cons_zero, List.set_cons_succ]
  refine wpAnyH_ready (rs := [3]) (by kernel_rfl) (by simp) (AllReadyH.cons ((List.getElem?_toArray ..).trans rfl) (fun KK hKK => ?_) AllReadyH.nil)
  go_simp
  clear hS
  refine (S.call (radd_any ⟨b1, p1, l1, K1, q1, j1, J1, rfl, hb1, n1, d1⟩ ⟨ba, pa, la, Ka, qa, ja, Ja, rfl, ha, na, da⟩ HB.out.1 (rb_neg HB.out.2.1) HB.out.2.2 q HQ.out)).mono ?_
  clear S
  rintro e w4 ⟨⟨_, rfl, b, p, l, K, q', j, J, rfl, hb, nn, dd⟩, S, H⟩
  replace n1 := n1.hold H
  replace d1 := d1.hold H
  replace n2 := n2.hold H
  replace d2 := d2.hold H
  replace na := na.hold H
  replace da := da.hold H
  replace HH := HH.trans H
  clear H
  go_wp2_with fail
  refine hKK.out _ _ ⟨S.c 0 0 rfl rfl, S.c 0 1 rfl rfl, S.c 0 2 rfl rfl, S.c 1 0 rfl rfl, S.c 1 1 rfl rfl, S.c 1 2 rfl rfl⟩ (fun hS => ?_)
  clear hKK KK
  try simp only [Act.put, List.setIfInBounds_toArray, List.set_cons_zero, List.set_cons_succ]
  refine wpAnyH_take (i := 4) (v := ?_) ((List.getElem?_toArray ..).trans rfl) (by kernel_rfl) (by kernel_rfl) (by kernel_rfl) (fun _ _ _ h => h) (Or.inl ⟨rfl, fun W hW => ?_⟩) hS ?_
  rotate_left
  · obtain ⟨hW0, hW1, hW2, hW3, hW4, hW5⟩ := hW; go_simp; try first | rfl | (rw [if_neg (by first | omega | (simp only [ByteArray.size_append]; first | omega | (have h1 : (ByteArray.mk #[47]).size = 1 := rfl; omega)))]; try rfl) | kernel_rfl
  try simp only [Act.put, List.setIfInBounds_toArray, List.set_cons_zero, List.set_cons_succ]
  refine wpAnyH_take (i := 5) (v := ?_) ((List.getElem?_toArray ..).trans rfl) (by kernel_rfl) (by kernel_rfl) (by kernel_rfl) (fun _ _ _ h => h) (Or.inl ⟨rfl, fun W hW => ?_⟩) hS ?_
  rotate_left
  · obtain ⟨hW0, hW1, hW2, hW3, hW4, hW5⟩ := hW; go_simp; try first | rfl | (rw [if_neg (by first | omega | (simp only [ByteArray.size_append]; first | omega | (have h1 : (ByteArray.mk #[47]).size = 1 := rfl; omega)))]; try rfl) | kernel_rfl
  try simp only [Act.put, List.setIfInBounds_toArray, List.set_cons_zero, List.set_cons_succ]
  refine wpAnyH_ready (rs := [6]) (by kernel_rfl) (by simp) (AllReadyH.cons ((List.getElem?_toArray ..).trans rfl) (fun KK hKK => ?_) AllReadyH.nil)
  have c0 := S.c 2 0 rfl rfl
  have f0 := S.f 2 0 rfl
  have c1 := S.c 2 1 rfl rfl
  have f1 := S.f 2 1 rfl
  have c2 := S.c 2 2 rfl rfl
  have f2 := S.f 2 2 rfl
  go_simp
  clear hS c0 f0 c1 f1 c2 f2
  have H := S.hset 2 0 (.bool b) rfl rfl (by intro q n e; cases e)
  replace S := S.set 2 0 (.bool b) rfl
  replace n1 := n1.hold H
  replace d1 := d1.hold H
  replace n2 := n2.hold H
  replace d2 := d2.hold H
  replace na := na.hold H
  replace da := da.hold H
  replace nn := nn.hold H
  replace dd := dd.hold H
  replace HH := HH.trans H
  clear H
  have H := S.hset 2 1 (.slice p l K) rfl rfl (by intro q n e; cases e)
  replace S := S.set 2 1 (.slice p l K) rfl
  replace n1 := n1.hold H
  replace d1 := d1.hold H
  replace n2 := n2.hold H
  replace d2 := d2.hold H
  replace na := na.hold H
  replace da := da.hold H
  replace nn := nn.hold H
  replace dd := dd.hold H
  replace HH := HH.trans H
  clear H
  have H := S.hset 2 2 (.slice q' j J) rfl rfl (by intro q n e; cases e)
  replace S := S.set 2 2 (.slice q' j J) rfl
  replace n1 := n1.hold H
  replace d1 := d1.hold H
  replace n2 := n2.hold H
  replace d2 := d2.hold H
  replace na := na.hold H
  replace da := da.hold H
  replace nn := nn.hold H
  replace dd := dd.hold H
  replace HH := HH.trans H
  clear H
  refine hKK.out _ _ ⟨S.c 0 0 rfl rfl, S.c 0 1 rfl rfl, S.c 0 2 rfl rfl, S.c 1 0 rfl rfl, S.c 1 1 rfl rfl, S.c 1 2 rfl rfl⟩ (fun hS => ?_)
  generalize (((w4.setCell ⟨w.heap.size + 1 + 1, 0, none⟩ (.bool b)).setCell ⟨w.heap.size + 1 + 1, 1, none⟩ (.slice p l K)).setCell ⟨w.heap.size + 1 + 1, 2, none⟩ (.slice q' j J)) = w5 at S n1 d1 n2 d2 na da nn dd HH hS ⊢
  clear hKK KK
  try simp only [Act.put, List.setIfInBounds_toArray, List.set_cons_zero, List.set_cons_succ]
  refine wpAnyH_ready (rs := [7]) (by kernel_rfl) (by simp) (AllReadyH.cons ((List.getElem?_toArray ..).trans rfl) (fun KK hKK => ?_) AllReadyH.nil)
  go_simp
  refine hKK.out _ _ hS (fun hS => ?_)
  clear hKK KK
  try simp only [Act.put, List.setIfInBounds_toArray, List.set_cons_zero, List.set_cons_succ]
  refine wpAnyH_done (by kernel_rfl) ?_ _
  clear hS HH
  have c0_0 := S.c 0 0 rfl rfl
  have c0_1 := S.c 0 1 rfl rfl
  have c0_2 := S.c 0 2 rfl rfl
  have c1_0 := S.c 1 0 rfl rfl
  have c1_1 := S.c 1 1 rfl rfl
  have c1_2 := S.c 1 2 rfl rfl
  have c2_0 := S.c 2 0 rfl rfl
  have c2_1 := S.c 2 1 rfl rfl
  have c2_2 := S.c 2 2 rfl rfl
  go_wp2_with fail
  have d2_0 := S.c 2 0 rfl rfl
  have d2_1 := S.c 2 1 rfl rfl
  have d2_2 := S.c 2 2 rfl rfl
  exact bodyPost_ret (v := .tuple #[.agg #[.bool b, .slice p l K, .slice q' j J], .int .i64 0]) (by simp [results, Tryz.f19, go_sem, d2_0, d2_1, d2_2]) rfl (⟨⟨_, rfl, b, p, l, K, q', j, J, rfl, hb, nn, dd⟩, S.below⟩)

end Go.Proofs.YtggnjlbnfgjgdaaGreat

namespace Go.Proofs.YtggnjlbnfgjgdaaGreat
open Go.RowKit

theorem abs_num (x : Rat) : (x.abs).num = x.num.natAbs ∧ (x.abs).den = x.den := by
  unfold Rat.abs
  split
  · rename_i h
    have := Rat.num_nonneg.2 h
    exact ⟨by omega, rfl⟩
  · rename_i h
    have : ¬ 0 ≤ x.num := fun e => h (Rat.num_nonneg.1 e)
    exact ⟨by rw [Rat.neg_num]; omega, rfl⟩

set_option maxRecDepth 100000 in
set_option maxHeartbeats 4000000 in
theorem rabs_any {va : Value} {x : Rat} {w : World} (ha : IsRat w va x) (hx : x.num.natAbs < maxN ∧ x.den < maxN) :
    Calls Tryz.prog 26 #[va] w fun e w' => (∃ u, e = .returned u ∧ IsRat w' u x.abs) ∧ Below w.heap.size w w' := by
  obtain ⟨b1, p1, l1, K1, q1, j1, J1, rfl, hb1, n1, d1⟩ := ha
  have HX := Lib.hid hx
  have HQ := Lib.hid (abs_num x)
  clear hx
  have S := ((St.start w).alloc 27 [.bool b1, .slice p1 l1 K1, .slice q1 j1 J1] (w.heap.size)).alloc 27 [.bool false, .slice none 0 0, .slice none 0 0] (w.heap.size + 1)
  try simp only [List.cons_append, List.nil_append] at S
  replace n1 := n1.hold S.hold
  replace d1 := d1.hold S.hold
  have c0_0 := S.c 0 0 rfl rfl
  have c0_1 := S.c 0 1 rfl rfl
  have c0_2 := S.c 0 2 rfl rfl
  have c1_0 := S.c 1 0 rfl rfl
  have c1_1 := S.c 1 1 rfl rfl
  have c1_2 := S.c 1 2 rfl rfl
  go_enter Tryz.func26, Tryz.ntmps26
  go_upto_region 1 with fail
  clear c0_0 c0_1 c0_2 c1_0 c1_1 c1_2
  generalize ((w.alloc (.cells #[.bool b1, .slice p1 l1 K1, .slice q1 j1 J1] 27)).alloc (.cells #[.bool false, .slice none 0 0, .slice none 0 0] 27)) = w1 at S n1 d1 ⊢
  have HH := Hold.drew w1
  replace n1 := n1.hold HH
  replace d1 := d1.hold HH
  replace S := S.drew
  refine wp_region_held_drew (S := fun W => W.cell? ⟨w.heap.size, 0, none⟩ = some (.bool b1) ∧ W.cell? ⟨w.heap.size, 1, none⟩ = some (.slice p1 l1 K1) ∧ W.cell? ⟨w.heap.size, 2, none⟩ = some (.slice q1 j1 J1)) (by kernel_rfl) ⟨S.c 0 0 rfl rfl, S.c 0 1 rfl rfl, S.c 0 2 rfl rfl⟩ (fun hS => ?_)
  generalize w1.drew = w2 at S n1 d1 HH hS ⊢
  refine wpAnyH_take (i := 0) (v := ?_) ((List.getElem?_toArray ..).trans rfl) (by kernel_rfl) (by kernel_rfl) (by kernel_rfl) (fun _ _ _ h => h) (Or.inl ⟨rfl, fun W hW => ?_⟩) hS ?_
  rotate_left
  · obtain ⟨hW0, hW1, hW2⟩ := hW; go_simp; try first | rfl | (rw [if_neg (by first | omega | (simp only [ByteArray.size_append]; first | omega | (have h1 : (ByteArray.mk #[47]).size = 1 := rfl; omega)))]; try rfl) | kernel_rfl
  try simp only [Act.put, List.setIfInBounds_toArray, List.set_cons_zero, List.set_cons_succ]
  refine wpAnyH_take (i := 1) (v := ?_) ((List.getElem?_toArray ..).trans rfl) (by kernel_rfl) (by kernel_rfl) (by kernel_rfl) (fun _ _ _ h => h) (Or.inl ⟨rfl, fun W hW => ?_⟩) hS ?_
  rotate_left
  · obtain ⟨hW0, hW1, hW2⟩ := hW; go_simp; try first | rfl | (rw [if_neg (by first | omega | (simp only [ByteArray.size_append]; first | omega | (have h1 : (ByteArray.mk #[47]).size = 1 := rfl; omega)))]; try rfl) | kernel_rfl
  try simp only [Act.put, List.setIfInBounds_toArray, List.set_cons_zero, List.set_cons_succ]
  refine wpAnyH_take (i := 3) (v := ?_) ((List.getElem?_toArray ..).trans rfl) (by kernel_rfl) (by kernel_rfl) (by kernel_rfl) (fun _ _ _ h => h) (Or.inl ⟨rfl, fun W hW => ?_⟩) hS ?_
  rotate_left
  · obtain ⟨hW0, hW1, hW2⟩ := hW; go_simp; try first | rfl | (rw [if_neg (by first | omega | (simp only [ByteArray.size_append]; first | omega | (have h1 : (ByteArray.mk #[47]).size = 1 := rfl; omega)))]; try rfl) | kernel_rfl
  try simp only [Act.put, List.setIfInBounds_toArray, List.set_cons_zero, List.set_cons_succ]
  refine wpAnyH_take (i := 4) (v := ?_) ((List.getElem?_toArray ..).trans rfl) (by kernel_rfl) (by kernel_rfl) (by kernel_rfl) (fun _ _ _ h => h) (Or.inl ⟨rfl, fun W hW => ?_⟩) hS ?_
  rotate_left
  · obtain ⟨hW0, hW1, hW2⟩ := hW; go_simp; try first | rfl | (rw [if_neg (by first | omega | (simp only [ByteArray.size_append]; first | omega | (have h1 : (ByteArray.mk #[47]).size = 1 := rfl; omega)))]; try rfl) | kernel_rfl
  try simp only [Act.put, List.setIfInBounds_toArray, List.set_cons_zero, List.set_cons_succ]
  refine wpAnyH_ready (rs := [2]) (by kernel_rfl) (by simp) (AllReadyH.cons ((List.getElem?_toArray ..).trans rfl) (fun KK hKK => ?_) AllReadyH.nil)
  go_simp
  clear hS
  refine (S.call (wabs_any ⟨_, _, _, by rw [hb1.out], n1⟩ HX.out.1 (x.num.natAbs : Int) rfl)).mono ?_
  clear S
  rintro e w3 ⟨⟨_, rfl, pa, la, Ka, rfl, na⟩, S, H⟩
  replace n1 := n1.hold H
  replace d1 := d1.hold H
  replace HH := HH.trans H
  clear H
  go_wp2_with fail
  refine hKK.out _ _ ⟨S.c 0 0 rfl rfl, S.c 0 1 rfl rfl, S.c 0 2 rfl rfl⟩ (fun hS => ?_)
  clear hKK KK
  try simp only [Act.put, List.setIfInBounds_toArray, List.set_cons_zero, List.set_cons_succ]
  refine wpAnyH_ready (rs := [5]) (by kernel_rfl) (by simp) (AllReadyH.cons ((List.getElem?_toArray ..).trans rfl) (fun KK hKK => ?_) AllReadyH.nil)
  go_simp
  clear hS
  refine (S.call (clone_any d1 HX.out.2)).mono ?_
  clear S
  rintro e w4 ⟨⟨_, rfl, nc⟩, S, H⟩
  replace n1 := n1.hold H
  replace d1 := d1.hold H
  replace na := na.hold H
  replace HH := HH.trans H
  clear H
  obtain ⟨pc, lc, Kc, rfl⟩ := nc.form
  go_wp2_with fail
  refine hKK.out _ _ ⟨S.c 0 0 rfl rfl, S.c 0 1 rfl rfl, S.c 0 2 rfl rfl⟩ (fun hS => ?_)
  clear hKK KK
  try simp only [Act.put, List.setIfInBounds_toArray, List.set_cons_zero, List.set_cons_succ]
  refine wpAnyH_take (i := 6) (v := ?_) ((List.getElem?_toArray ..).trans rfl) (by kernel_rfl) (by kernel_rfl) (by kernel_rfl) (fun _ _ _ h => h) (Or.inl ⟨rfl, fun W hW => ?_⟩) hS ?_
  rotate_left
  · obtain ⟨hW0, hW1, hW2⟩ := hW; go_simp; try first | rfl | (rw [if_neg (by first | omega | (simp only [ByteArray.size_append]; first | omega | (have h1 : (ByteArray.mk #[47]).size = 1 := rfl; omega)))]; try rfl) | kernel_rfl
  try simp only [Act.put, List.setIfInBounds_toArray, List.set_cons_zero, List.set_cons_succ]
  refine wpAnyH_ready (rs := [7]) (by kernel_rfl) (by simp) (AllReadyH.cons ((List.getElem?_toArray ..).trans rfl) (fun KK hKK => ?_) AllReadyH.nil)
  have c0 := S.c 1 0 rfl rfl
  have f0 := S.f 1 0 rfl
  have c1 := S.c 1 1 rfl rfl
  have f1 := S.f 1 1 rfl
  have c2 := S.c 1 2 rfl rfl
  have f2 := S.f 1 2 rfl
  go_simp
  clear hS c0 f0 c1 f1 c2 f2
  have H := S.hset 1 0 (.bool (negB (x.num.natAbs : Int))) rfl rfl (by intro q n e; cases e)
  replace S := S.set 1 0 (.bool (negB (x.num.natAbs : Int))) rfl
  replace n1 := n1.hold H
  replace d1 := d1.hold H
  replace na := na.hold H
  replace nc := nc.hold H
  replace HH := HH.trans H
  clear H
  have H := S.hset 1 1 (.slice pa la Ka) rfl rfl (by intro q n e; cases e)
  replace S := S.set 1 1 (.slice pa la Ka) rfl
  replace n1 := n1.hold H
  replace d1 := d1.hold H
  replace na := na.hold H
  replace nc := nc.hold H
  replace HH := HH.trans H
  clear H
  have H := S.hset 1 2 (.slice pc lc Kc) rfl rfl (by intro q n e; cases e)
  replace S := S.set 1 2 (.slice pc lc Kc) rfl
  replace n1 := n1.hold H
  replace d1 := d1.hold H
  replace na := na.hold H
  replace nc := nc.hold H
  replace HH := HH.trans H
  clear H
  refine hKK.out _ _ ⟨S.c 0 0 rfl rfl, S.c 0 1 rfl rfl, S.c 0 2 rfl rfl⟩ (fun hS => ?_)
  generalize (((w4.setCell ⟨w.heap.size + 1, 0, none⟩ (.bool (negB (x.num.natAbs : Int)))).setCell ⟨w.heap.size + 1, 1, none⟩ (.slice pa la Ka)).setCell ⟨w.heap.size + 1, 2, none⟩ (.slice pc lc Kc)) = w5 at S n1 d1 na nc HH hS ⊢
  clear hKK KK
  try simp only [Act.put, List.setIfInBounds_toArray, List.set_cons_zero, List.set_cons_succ]
  refine wpAnyH_done (by kernel_rfl) ?_ _
  clear hS HH
  have c0_0 := S.c 0 0 rfl rfl
  have c0_1 := S.c 0 1 rfl rfl
  have c0_2 := S.c 0 2 rfl rfl
  have c1_0 := S.c 1 0 rfl rfl
  have c1_1 := S.c 1 1 rfl rfl
  have c1_2 := S.c 1 2 rfl rfl
  go_wp2_with fail
  have d1_0 := S.c 1 0 rfl rfl
  have d1_1 := S.c 1 1 rfl rfl
  have d1_2 := S.c 1 2 rfl rfl
  exact bodyPost_ret (v := .agg #[.bool (negB (x.num.natAbs : Int)), .slice pa la Ka, .slice pc lc Kc]) (by simp [results, Tryz.f26, go_sem, d1_0, d1_1, d1_2]) rfl (⟨⟨_, rfl, _, pa, la, Ka, pc, lc, Kc, rfl, by rw [HQ.out.1]; rfl, by rw [HQ.out.1]; exact na, by rw [HQ.out.2]; exact nc⟩, S.below⟩)

end Go.Proofs.YtggnjlbnfgjgdaaGreat

namespace Go.Proofs.YtggnjlbnfgjgdaaGreat
open Go.RowKit

/-- How one ratio stands to another one. -/
def cmpR (x y : Rat) : Int := cmpI (x.num * y.den) (y.num * x.den)

set_option maxRecDepth 100000 in
set_option maxHeartbeats 4000000 in
theorem rcompare_any {va vb : Value} {x y : Rat} {w : World} (ha : IsRat w va x) (hb : IsRat w vb y) {k1 k2 : Nat} (hx : RB x k1) (hy : RB y k2) (hk : k1 + k2 ≤ 511) (c : Int) (hc : cmpR x y = c) :
    Calls Tryz.prog 23 #[va, vb] w fun e w' => e = .returned (.tuple #[.int .i64 c, .int .i64 0]) ∧ Below w.heap.size w w' := by
  obtain ⟨b1, p1, l1, K1, q1, j1, J1, rfl, hb1, n1, d1⟩ := ha
  obtain ⟨b2, p2, l2, K2, q2, j2, J2, rfl, hb2, n2, d2⟩ := hb
  obtain ⟨X, hX⟩ : ∃ X, x.num * y.den = X := ⟨_, rfl⟩
  obtain ⟨Y, hY⟩ : ∃ Y, y.num * x.den = Y := ⟨_, rfl⟩
  have hb := rbz hx hy
  rw [hX, hY] at hb
  unfold cmpR at hc
  rw [hX, hY] at hc
  have HX := Lib.hid (And.intro (rb_max hx (by omega)) (rb_max hy (by omega)))
  have HD := Lib.hid (And.intro hX (And.intro hY hc))
  have HB := Lib.hid (And.intro (nb_max hb.1 (by omega)) (nb_max hb.2.1 (by omega)))
  clear hX hY hb hc hx hy hk
  have S := ((St.start w).alloc 27 [.bool b1, .slice p1 l1 K1, .slice q1 j1 J1] (w.heap.size)).alloc 27 [.bool b2, .slice p2 l2 K2, .slice q2 j2 J2] (w.heap.size + 1)
  try simp only [List.cons_append, List.nil_append] at S
  replace n1 := n1.hold S.hold
  replace d1 := d1.hold S.hold
  replace n2 := n2.hold S.hold
  replace d2 := d2.hold S.hold
  have c0_0 := S.c 0 0 rfl rfl
  have c0_1 := S.c 0 1 rfl rfl
  have c0_2 := S.c 0 2 rfl rfl
  have c1_0 := S.c 1 0 rfl rfl
  have c1_1 := S.c 1 1 rfl rfl
  have c1_2 := S.c 1 2 rfl rfl
  go_enter Tryz.func23, Tryz.ntmps23
  go_wp2_with fail
  clear c0_0 c0_1 c0_2 c1_0 c1_1 c1_2
  refine (S.call (cross_any ⟨b1, p1, l1, K1, q1, j1, J1, rfl, hb1, n1, d1⟩ ⟨b2, p2, l2, K2, q2, j2, J2, rfl, hb2, n2, d2⟩ HX.out.1.1 HX.out.1.2 HX.out.2.1 HX.out.2.2 X Y HD.out.1 HD.out.2.1 HB.out.1 HB.out.2)).mono ?_
  clear S
  rintro e w1 ⟨⟨_, _, rfl, ⟨px, lx, Kx, rfl, nx⟩, ⟨py, ly, Ky, rfl, ny⟩⟩, S, H⟩
  replace n1 := n1.hold H
  replace d1 := d1.hold H
  replace n2 := n2.hold H
  replace d2 := d2.hold H
  clear H
  have c0_0 := S.c 0 0 rfl rfl
  have c0_1 := S.c 0 1 rfl rfl
  have c0_2 := S.c 0 2 rfl rfl
  have c1_0 := S.c 1 0 rfl rfl
  have c1_1 := S.c 1 1 rfl rfl
  have c1_2 := S.c 1 2 rfl rfl
  have H := S.hnew 25 [.bool (negB X), .slice px lx Kx]
  replace S := S.alloc 25 [.bool (negB X), .slice px lx Kx] (w1.heap.size)
  try simp only [List.cons_append, List.nil_append] at S
  replace n1 := n1.hold H
  replace d1 := d1.hold H
  replace n2 := n2.hold H
  replace d2 := d2.hold H
  replace nx := nx.hold H
  replace ny := ny.hold H
  clear H
  have H := S.hnew 25 [.bool (negB Y), .slice py ly Ky]
  replace S := S.alloc 25 [.bool (negB Y), .slice py ly Ky] (w1.heap.size + 1)
  try simp only [List.cons_append, List.nil_append] at S
  replace n1 := n1.hold H
  replace d1 := d1.hold H
  replace n2 := n2.hold H
  replace d2 := d2.hold H
  replace nx := nx.hold H
  replace ny := ny.hold H
  clear H
  clear c0_0 c0_1 c0_2 c1_0 c1_1 c1_2
  have c0_0 := S.c 0 0 rfl rfl
  have c0_1 := S.c 0 1 rfl rfl
  have c0_2 := S.c 0 2 rfl rfl
  have c1_0 := S.c 1 0 rfl rfl
  have c1_1 := S.c 1 1 rfl rfl
  have c1_2 := S.c 1 2 rfl rfl
  have c2_0 := S.c 2 0 rfl rfl
  have c2_1 := S.c 2 1 rfl rfl
  have c3_0 := S.c 3 0 rfl rfl
  have c3_1 := S.c 3 1 rfl rfl
  go_wp2_with fail
  clear c0_0 c0_1 c0_2 c1_0 c1_1 c1_2 c2_0 c2_1 c3_0 c3_1
  refine (S.call (wcompare_to ⟨_, _, _, rfl, nx⟩ ⟨_, _, _, rfl, ny⟩ HB.out.1 HB.out.2 c HD.out.2.2)).mono ?_
  clear S
  rintro e w2 ⟨rfl, S, H⟩
  replace n1 := n1.hold H
  replace d1 := d1.hold H
  replace n2 := n2.hold H
  replace d2 := d2.hold H
  replace nx := nx.hold H
  replace ny := ny.hold H
  clear H
  have c0_0 := S.c 0 0 rfl rfl
  have c0_1 := S.c 0 1 rfl rfl
  have c0_2 := S.c 0 2 rfl rfl
  have c1_0 := S.c 1 0 rfl rfl
  have c1_1 := S.c 1 1 rfl rfl
  have c1_2 := S.c 1 2 rfl rfl
  have c2_0 := S.c 2 0 rfl rfl
  have c2_1 := S.c 2 1 rfl rfl
  have c3_0 := S.c 3 0 rfl rfl
  have c3_1 := S.c 3 1 rfl rfl
  go_wp2_with fail
  exact bodyPost_ret (v := .tuple #[.int .i64 c, .int .i64 0]) (by simp [results, Tryz.f23, go_sem]) rfl (⟨rfl, S.below⟩)

end Go.Proofs.YtggnjlbnfgjgdaaGreat

namespace Go.Proofs.YtggnjlbnfgjgdaaGreat
open Go.RowKit

set_option maxRecDepth 100000 in
set_option maxHeartbeats 4000000 in
theorem rdiv_any {va vb : Value} {x y : Rat} {w : World} (ha : IsRat w va x) (hb : IsRat w vb y) {k1 k2 : Nat} (hx : RB x k1) (hy : RB y k2) (hk : k1 + k2 ≤ 511) (h0 : y ≠ 0) (q : Rat) (hq : x / y = q) :
    Calls Tryz.prog 21 #[va, vb] w fun e w' => (∃ u, e = .returned (.tuple #[u, .int .i64 0]) ∧ IsRat w' u q) ∧ Below w.heap.size w w' := by
  obtain ⟨b1, p1, l1, K1, q1, j1, J1, rfl, hb1, n1, d1⟩ := ha
  obtain ⟨b2, p2, l2, K2, q2, j2, J2, rfl, hb2, n2, d2⟩ := hb
  obtain ⟨X, hX⟩ : ∃ X, x.num * y.den = X := ⟨_, rfl⟩
  obtain ⟨Y, hY⟩ : ∃ Y, y.num * x.den = Y := ⟨_, rfl⟩
  have hb := rbz hx hy
  rw [hX, hY] at hb
  have hq2 : q = Rat.divInt X Y := by rw [← hq, div_divInt, hX, hY]
  have hY0 : Y ≠ 0 := by rw [← hY]; exact fun e => by rcases Int.mul_eq_zero.1 e with e | e; exact num_ne h0 e; exact den_ne x e
  obtain ⟨s, hs⟩ : ∃ s, y.num.sign = s := ⟨_, rfl⟩
  have hs0 : ¬ s = 0 := by rw [← hs]; exact fun h => num_ne h0 (Int.sign_eq_zero_iff_zero.1 h)
  have hs1 : (s == 0) = false := by simpa using hs0
  have HX := Lib.hid (And.intro (rb_max hx (by omega)) (rb_max hy (by omega)))
  have HD := Lib.hid (And.intro hX (And.intro hY (And.intro hq2 (And.intro hY0 hs))))
  have HB := Lib.hid (And.intro (nb_max hb.1 (by omega)) (nb_max hb.2.1 (by omega)))
  clear hX hY hb hq hq2 hY0 hs hx hy hk h0
  have S := (((St.start w).alloc 27 [.bool b1, .slice p1 l1 K1, .slice q1 j1 J1] (w.heap.size)).alloc 27 [.bool b2, .slice p2 l2 K2, .slice q2 j2 J2] (w.heap.size + 1)).alloc 27 [.bool false, .slice none 0 0, .slice none 0 0] (w.heap.size + 1 + 1)
  try simp only [List.cons_append, List.nil_append] at S
  replace n1 := n1.hold S.hold
  replace d1 := d1.hold S.hold
  replace n2 := n2.hold S.hold
  replace d2 := d2.hold S.hold
  have c0_0 := S.c 0 0 rfl rfl
  have c0_1 := S.c 0 1 rfl rfl
  have c0_2 := S.c 0 2 rfl rfl
  have c1_0 := S.c 1 0 rfl rfl
  have c1_1 := S.c 1 1 rfl rfl
  have c1_2 := S.c 1 2 rfl rfl
  have c2_0 := S.c 2 0 rfl rfl
  have c2_1 := S.c 2 1 rfl rfl
  have c2_2 := S.c 2 2 rfl rfl
  go_enter Tryz.func21, Tryz.ntmps21
  go_wp2_with fail
  clear c0_0 c0_1 c0_2 c1_0 c1_1 c1_2 c2_0 c2_1 c2_2
  refine (S.call (rsign_any ⟨b2, p2, l2, K2, q2, j2, J2, rfl, hb2, n2, d2⟩ HX.out.2.1 HD.out.2.2.2.2)).mono ?_
  clear S
  rintro e w1 ⟨rfl, S, H⟩
  replace n1 := n1.hold H
  replace d1 := d1.hold H
  replace n2 := n2.hold H
  replace d2 := d2.hold H
  clear H
  have c0_0 := S.c 0 0 rfl rfl
  have c0_1 := S.c 0 1 rfl rfl
  have c0_2 := S.c 0 2 rfl rfl
  have c1_0 := S.c 1 0 rfl rfl
  have c1_1 := S.c 1 1 rfl rfl
  have c1_2 := S.c 1 2 rfl rfl
  have c2_0 := S.c 2 0 rfl rfl
  have c2_1 := S.c 2 1 rfl rfl
  have c2_2 := S.c 2 2 rfl rfl
  go_wp2_with fail
  clear c0_0 c0_1 c0_2 c1_0 c1_1 c1_2 c2_0 c2_1 c2_2
  refine (S.call (cross_any ⟨b1, p1, l1, K1, q1, j1, J1, rfl, hb1, n1, d1⟩ ⟨b2, p2, l2, K2, q2, j2, J2, rfl, hb2, n2, d2⟩ HX.out.1.1 HX.out.1.2 HX.out.2.1 HX.out.2.2 X Y HD.out.1 HD.out.2.1 HB.out.1 HB.out.2)).mono ?_
  clear S
  rintro e w2 ⟨⟨_, _, rfl, ⟨px, lx, Kx, rfl, nx⟩, ⟨py, ly, Ky, rfl, ny⟩⟩, S, H⟩
  replace n1 := n1.hold H
  replace d1 := d1.hold H
  replace n2 := n2.hold H
  replace d2 := d2.hold H
  clear H
  have c0_0 := S.c 0 0 rfl rfl
  have c0_1 := S.c 0 1 rfl rfl
  have c0_2 := S.c 0 2 rfl rfl
  have c1_0 := S.c 1 0 rfl rfl
  have c1_1 := S.c 1 1 rfl rfl
  have c1_2 := S.c 1 2 rfl rfl
  have c2_0 := S.c 2 0 rfl rfl
  have c2_1 := S.c 2 1 rfl rfl
  have c2_2 := S.c 2 2 rfl rfl
  go_wp2_with fail
  clear c0_0 c0_1 c0_2 c1_0 c1_1 c1_2 c2_0 c2_1 c2_2
  refine (S.call (over_any ⟨_, _, _, rfl, nx⟩ ⟨_, _, _, rfl, ny⟩ HB.out.1 HB.out.2 HD.out.2.2.2.1 q HD.out.2.2.1)).mono ?_
  clear S
  rintro e w3 ⟨⟨_, rfl, b, p, l, K, q', j, J, rfl, hb, nn, dd⟩, S, H⟩
  replace n1 := n1.hold H
  replace d1 := d1.hold H
  replace n2 := n2.hold H
  replace d2 := d2.hold H
  replace nx := nx.hold H
  replace ny := ny.hold H
  clear H
  have c0_0 := S.c 0 0 rfl rfl
  have c0_1 := S.c 0 1 rfl rfl
  have c0_2 := S.c 0 2 rfl rfl
  have c1_0 := S.c 1 0 rfl rfl
  have c1_1 := S.c 1 1 rfl rfl
  have c1_2 := S.c 1 2 rfl rfl
  have c2_0 := S.c 2 0 rfl rfl
  have c2_1 := S.c 2 1 rfl rfl
  have c2_2 := S.c 2 2 rfl rfl
  have f2_0 := S.f 2 0 rfl
  have H := S.hset 2 0 (.bool b) rfl rfl (by intro q n e; cases e)
  replace S := S.set 2 0 (.bool b) rfl
  replace n1 := n1.hold H
  replace d1 := d1.hold H
  replace n2 := n2.hold H
  replace d2 := d2.hold H
  replace nx := nx.hold H
  replace ny := ny.hold H
  replace nn := nn.hold H
  replace dd := dd.hold H
  clear H
  have f2_1 := S.f 2 1 rfl
  have H := S.hset 2 1 (.slice p l K) rfl rfl (by intro q n e; cases e)
  replace S := S.set 2 1 (.slice p l K) rfl
  replace n1 := n1.hold H
  replace d1 := d1.hold H
  replace n2 := n2.hold H
  replace d2 := d2.hold H
  replace nx := nx.hold H
  replace ny := ny.hold H
  replace nn := nn.hold H
  replace dd := dd.hold H
  clear H
  have f2_2 := S.f 2 2 rfl
  have H := S.hset 2 2 (.slice q' j J) rfl rfl (by intro q n e; cases e)
  replace S := S.set 2 2 (.slice q' j J) rfl
  replace n1 := n1.hold H
  replace d1 := d1.hold H
  replace n2 := n2.hold H
  replace d2 := d2.hold H
  replace nx := nx.hold H
  replace ny := ny.hold H
  replace nn := nn.hold H
  replace dd := dd.hold H
  clear H
  go_wp2_with fail
  have d2_0 := S.c 2 0 rfl rfl
  have d2_1 := S.c 2 1 rfl rfl
  have d2_2 := S.c 2 2 rfl rfl
  exact bodyPost_ret (v := .tuple #[.agg #[.bool b, .slice p l K, .slice q' j J], .int .i64 0]) (by simp [results, Tryz.f21, go_sem, d2_0, d2_1, d2_2]) rfl (⟨⟨_, rfl, b, p, l, K, q', j, J, rfl, hb, nn, dd⟩, S.below⟩)

end Go.Proofs.YtggnjlbnfgjgdaaGreat

namespace Go.Proofs.YtggnjlbnfgjgdaaGreat
open Go.RowKit

set_option maxRecDepth 100000 in
set_option maxHeartbeats 4000000 in
theorem rfloor_any {va : Value} {x : Rat} {w : World} (ha : IsRat w va x) (hx : x.num.natAbs < maxN ∧ x.den < maxN) (z : Int) (hz : x.floor = z) :
    Calls Tryz.prog 28 #[va] w fun e w' => (∃ u, e = .returned u ∧ IsInt w' u z) ∧ Below w.heap.size w w' := by
  obtain ⟨b1, p1, l1, K1, q1, j1, J1, rfl, hb1, n1, d1⟩ := ha
  obtain ⟨zr, hzr⟩ : ∃ r, x.num % (x.den : Int) = r := ⟨_, rfl⟩
  have HX := Lib.hid hx
  have HD := Lib.hid (And.intro (show x.num / (x.den : Int) = z by rw [← hz, Rat.floor_def]) (And.intro hzr (den_ne x)))
  clear hx hz hzr
  have S := ((St.start w).alloc 27 [.bool b1, .slice p1 l1 K1, .slice q1 j1 J1] (w.heap.size)).alloc 25 [.bool false, .slice none 0 0] (w.heap.size + 1)
  try simp only [List.cons_append, List.nil_append] at S
  replace n1 := n1.hold S.hold
  replace d1 := d1.hold S.hold
  have c0_0 := S.c 0 0 rfl rfl
  have c0_1 := S.c 0 1 rfl rfl
  have c0_2 := S.c 0 2 rfl rfl
  have c1_0 := S.c 1 0 rfl rfl
  have c1_1 := S.c 1 1 rfl rfl
  go_enter Tryz.func28, Tryz.ntmps28
  go_upto_region 1 with fail
  clear c0_0 c0_1 c0_2 c1_0 c1_1
  generalize ((w.alloc (.cells #[.bool b1, .slice p1 l1 K1, .slice q1 j1 J1] 27)).alloc (.cells #[.bool false, .slice none 0 0] 25)) = w1 at S n1 d1 ⊢
  go_cut [3] (fun s3 wx => ∃ g3 pz lz Kz, s3 = .pointer (some ⟨g3, 0, none⟩) ∧ St w wx [(w.heap.size, 27, [.bool b1, .slice p1 l1 K1, .slice q1 j1 J1]), (w.heap.size + 1, 25, [.bool false, .slice none 0 0]), (g3, 25, [.bool (negB z), .slice pz lz Kz])] ∧ IsNat wx (.slice pz lz Kz) z.natAbs ∧ Hold w1 wx)
  case first =>
    have HH := Hold.drew w1
    replace n1 := n1.hold HH
    replace d1 := d1.hold HH
    replace S := S.drew
    refine wp_region_held_drew (S := fun W => W.cell? ⟨w.heap.size, 0, none⟩ = some (.bool b1) ∧ W.cell? ⟨w.heap.size, 1, none⟩ = some (.slice p1 l1 K1) ∧ W.cell? ⟨w.heap.size, 2, none⟩ = some (.slice q1 j1 J1)) (by kernel_rfl) ⟨S.c 0 0 rfl rfl, S.c 0 1 rfl rfl, S.c 0 2 rfl rfl⟩ (fun hS => ?_)
    generalize w1.drew = w2 at S n1 d1 HH hS ⊢
    refine wpAnyH_take (i := 0) (v := ?_) ((List.getElem?_toArray ..).trans rfl) (by kernel_rfl) (by kernel_rfl) (by kernel_rfl) (fun _ _ _ h => h) (Or.inl ⟨rfl, fun W hW => ?_⟩) hS ?_
    rotate_left
    · obtain ⟨hW0, hW1, hW2⟩ := hW; go_simp; try first | rfl | (rw [if_neg (by first | omega | (simp only [ByteArray.size_append]; first | omega | (have h1 : (ByteArray.mk #[47]).size = 1 := rfl; omega)))]; try rfl) | kernel_rfl
    try simp only [Act.put, List.setIfInBounds_toArray, List.set_cons_zero, List.set_cons_succ]
    refine wpAnyH_take (i := 1) (v := ?_) ((List.getElem?_toArray ..).trans rfl) (by kernel_rfl) (by kernel_rfl) (by kernel_rfl) (fun _ _ _ h => h) (Or.inl ⟨rfl, fun W hW => ?_⟩) hS ?_
    rotate_left
    · obtain ⟨hW0, hW1, hW2⟩ := hW; go_simp; try first | rfl | (rw [if_neg (by first | omega | (simp only [ByteArray.size_append]; first | omega | (have h1 : (ByteArray.mk #[47]).size = 1 := rfl; omega)))]; try rfl) | kernel_rfl
    try simp only [Act.put, List.setIfInBounds_toArray, List.set_cons_zero, List.set_cons_succ]
    refine wpAnyH_take (i := 2) (v := ?_) ((List.getElem?_toArray ..).trans rfl) (by kernel_rfl) (by kernel_rfl) (by kernel_rfl) (fun _ _ _ h => h) (Or.inl ⟨rfl, fun W hW => ?_⟩) hS ?_
    rotate_left
    · obtain ⟨hW0, hW1, hW2⟩ := hW; go_simp; try first | rfl | (rw [if_neg (by first | omega | (simp only [ByteArray.size_append]; first | omega | (have h1 : (ByteArray.mk #[47]).size = 1 := rfl; omega)))]; try rfl) | kernel_rfl
    try simp only [Act.put, List.setIfInBounds_toArray, List.set_cons_zero, List.set_cons_succ]
    refine wpAnyH_take (i := 3) (v := ?_) ((List.getElem?_toArray ..).trans rfl) (by kernel_rfl) (by kernel_rfl) (by kernel_rfl) (fun _ _ _ h => h) (Or.inl ⟨rfl, fun W hW => ?_⟩) hS ?_
    rotate_left
    · obtain ⟨hW0, hW1, hW2⟩ := hW; go_simp; try first | rfl | (rw [if_neg (by first | omega | (simp only [ByteArray.size_append]; first | omega | (have h1 : (ByteArray.mk #[47]).size = 1 := rfl; omega)))]; try rfl) | kernel_rfl
    try simp only [Act.put, List.setIfInBounds_toArray, List.set_cons_zero, List.set_cons_succ]
    refine wpAnyH_ready (rs := [4, 10, 11]) (by kernel_rfl) (by simp) (AllReadyH.cons ((List.getElem?_toArray ..).trans rfl) (fun KK hKK => ?_) (AllReadyH.cons ((List.getElem?_toArray ..).trans rfl) (fun KK hKK => ?_) (AllReadyH.cons ((List.getElem?_toArray ..).trans rfl) (fun KK hKK => ?_) AllReadyH.nil)))
    ·
      go_simp
      clear hS
      refine (S.call (wnat_any d1 HX.out.2 (x.den : Int) rfl)).mono ?_
      clear S
      rintro e w3 ⟨⟨_, rfl, pa, la, Ka, rfl, na⟩, S, H⟩
      replace n1 := n1.hold H
      replace d1 := d1.hold H
      replace HH := HH.trans H
      clear H
      go_wp2_with fail
      refine hKK.out _ _ ⟨S.c 0 0 rfl rfl, S.c 0 1 rfl rfl, S.c 0 2 rfl rfl⟩ (fun hS => ?_)
      clear hKK KK
      try simp only [Act.put, List.setIfInBounds_toArray, List.set_cons_zero, List.set_cons_succ]
      refine wpAnyH_ready (rs := [5, 10, 11]) (by kernel_rfl) (by simp) (AllReadyH.cons ((List.getElem?_toArray ..).trans rfl) (fun KK hKK => ?_) (AllReadyH.cons ((List.getElem?_toArray ..).trans rfl) (fun KK hKK => ?_) (AllReadyH.cons ((List.getElem?_toArray ..).trans rfl) (fun KK hKK => ?_) AllReadyH.nil)))
      ·
        go_simp
        clear hS
        refine (S.call (wdiv_to ⟨_, _, _, by rw [hb1.out], n1⟩ ⟨_, _, _, rfl, na⟩ HX.out.1 HX.out.2 z zr HD.out.2.2 HD.out.1 HD.out.2.1)).mono ?_
        clear S
        rintro e w4 ⟨⟨_, _, rfl, ⟨pz, lz, Kz, rfl, nz⟩, ⟨pr, lr, Kr, rfl, nr⟩⟩, S, H⟩
        replace n1 := n1.hold H
        replace d1 := d1.hold H
        replace na := na.hold H
        replace HH := HH.trans H
        clear H
        go_wp2_with fail
        refine hKK.out _ _ ⟨S.c 0 0 rfl rfl, S.c 0 1 rfl rfl, S.c 0 2 rfl rfl⟩ (fun hS => ?_)
        clear hKK KK
        try simp only [Act.put, List.setIfInBounds_toArray, List.set_cons_zero, List.set_cons_succ]
        refine wpAnyH_take (i := 6) (v := ?_) ((List.getElem?_toArray ..).trans rfl) (by kernel_rfl) (by kernel_rfl) (by kernel_rfl) (fun _ _ _ h => h) (Or.inl ⟨rfl, fun W hW => ?_⟩) hS ?_
        rotate_left
        · obtain ⟨hW0, hW1, hW2⟩ := hW; go_simp; try first | rfl | (rw [if_neg (by first | omega | (simp only [ByteArray.size_append]; first | omega | (have h1 : (ByteArray.mk #[47]).size = 1 := rfl; omega)))]; try rfl) | kernel_rfl
        try simp only [Act.put, List.setIfInBounds_toArray, List.set_cons_zero, List.set_cons_succ]
        refine wpAnyH_take (i := 7) (v := ?_) ((List.getElem?_toArray ..).trans rfl) (by kernel_rfl) (by kernel_rfl) (by kernel_rfl) (fun _ _ _ h => h) (Or.inl ⟨rfl, fun W hW => ?_⟩) hS ?_
        rotate_left
        · obtain ⟨hW0, hW1, hW2⟩ := hW; go_simp; try first | rfl | (rw [if_neg (by first | omega | (simp only [ByteArray.size_append]; first | omega | (have h1 : (ByteArray.mk #[47]).size = 1 := rfl; omega)))]; try rfl) | kernel_rfl
        try simp only [Act.put, List.setIfInBounds_toArray, List.set_cons_zero, List.set_cons_succ]
        refine wpAnyH_take (i := 8) (v := ?_) ((List.getElem?_toArray ..).trans rfl) (by kernel_rfl) (by kernel_rfl) (by kernel_rfl) (fun _ _ _ h => h) (Or.inl ⟨rfl, fun W hW => ?_⟩) hS ?_
        rotate_left
        · obtain ⟨hW0, hW1, hW2⟩ := hW; go_simp; try first | rfl | (rw [if_neg (by first | omega | (simp only [ByteArray.size_append]; first | omega | (have h1 : (ByteArray.mk #[47]).size = 1 := rfl; omega)))]; try rfl) | kernel_rfl
        try simp only [Act.put, List.setIfInBounds_toArray, List.set_cons_zero, List.set_cons_succ]
        refine wpAnyH_take (i := 9) (v := ?_) ((List.getElem?_toArray ..).trans rfl) (by kernel_rfl) (by kernel_rfl) (by kernel_rfl) (fun _ _ _ h => h) (Or.inl ⟨rfl, fun W hW => ?_⟩) hS ?_
        rotate_left
        · obtain ⟨hW0, hW1, hW2⟩ := hW; go_simp; try first | rfl | (rw [if_neg (by first | omega | (simp only [ByteArray.size_append]; first | omega | (have h1 : (ByteArray.mk #[47]).size = 1 := rfl; omega)))]; try rfl) | kernel_rfl
        try simp only [Act.put, List.setIfInBounds_toArray, List.set_cons_zero, List.set_cons_succ]
        refine wpAnyH_ready (rs := [10, 11]) (by kernel_rfl) (by simp) (AllReadyH.cons ((List.getElem?_toArray ..).trans rfl) (fun KK hKK => ?_) (AllReadyH.cons ((List.getElem?_toArray ..).trans rfl) (fun KK hKK => ?_) AllReadyH.nil))
        ·
          go_simp
          clear hS
          have H := S.hnew 25 [.bool false, .slice none 0 0]
          replace S := S.alloc 25 [.bool false, .slice none 0 0] (w4.heap.size)
          try simp only [List.cons_append, List.nil_append] at S
          replace n1 := n1.hold H
          replace d1 := d1.hold H
          replace na := na.hold H
          replace nz := nz.hold H
          replace HH := HH.trans H
          clear H
          refine hKK.out _ _ ⟨S.c 0 0 rfl rfl, S.c 0 1 rfl rfl, S.c 0 2 rfl rfl⟩ (fun hS => ?_)
          generalize (w4.alloc (.cells #[.bool false, .slice none 0 0] 25)) = w5 at S n1 d1 na nz HH hS ⊢
          clear hKK KK
          try simp only [Act.put, List.setIfInBounds_toArray, List.set_cons_zero, List.set_cons_succ]
          refine wpAnyH_ready (rs := [11]) (by kernel_rfl) (by simp) (AllReadyH.cons ((List.getElem?_toArray ..).trans rfl) (fun KK hKK => ?_) AllReadyH.nil)
          go_simp
          clear hS
          have H := S.hnew 25 [.bool false, .slice none 0 0]
          replace S := S.alloc 25 [.bool false, .slice none 0 0] (w5.heap.size)
          try simp only [List.cons_append, List.nil_append] at S
          replace n1 := n1.hold H
          replace d1 := d1.hold H
          replace na := na.hold H
          replace nz := nz.hold H
          replace HH := HH.trans H
          clear H
          refine hKK.out _ _ ⟨S.c 0 0 rfl rfl, S.c 0 1 rfl rfl, S.c 0 2 rfl rfl⟩ (fun hS => ?_)
          generalize (w5.alloc (.cells #[.bool false, .slice none 0 0] 25)) = w6 at S n1 d1 na nz HH hS ⊢
          clear hKK KK
          try simp only [Act.put, List.setIfInBounds_toArray, List.set_cons_zero, List.set_cons_succ]
          refine wpAnyH_ready (rs := [12]) (by kernel_rfl) (by simp) (AllReadyH.cons ((List.getElem?_toArray ..).trans rfl) (fun KK hKK => ?_) AllReadyH.nil)
          have c0 := S.c 2 0 rfl rfl
          have f0 := S.f 2 0 rfl
          have c1 := S.c 2 1 rfl rfl
          have f1 := S.f 2 1 rfl
          go_simp
          clear hS c0 f0 c1 f1
          have H := S.hset 2 0 (.bool (negB z)) rfl rfl (by intro q n e; cases e)
          replace S := S.set 2 0 (.bool (negB z)) rfl
          replace n1 := n1.hold H
          replace d1 := d1.hold H
          replace na := na.hold H
          replace nz := nz.hold H
          replace HH := HH.trans H
          clear H
          have H := S.hset 2 1 (.slice pz lz Kz) rfl rfl (by intro q n e; cases e)
          replace S := S.set 2 1 (.slice pz lz Kz) rfl
          replace n1 := n1.hold H
          replace d1 := d1.hold H
          replace na := na.hold H
          replace nz := nz.hold H
          replace HH := HH.trans H
          clear H
          refine hKK.out _ _ ⟨S.c 0 0 rfl rfl, S.c 0 1 rfl rfl, S.c 0 2 rfl rfl⟩ (fun hS => ?_)
          generalize ((w6.setCell ⟨w4.heap.size, 0, none⟩ (.bool (negB z))).setCell ⟨w4.heap.size, 1, none⟩ (.slice pz lz Kz)) = w7 at S n1 d1 na nz HH hS ⊢
          clear hKK KK
          try simp only [Act.put, List.setIfInBounds_toArray, List.set_cons_zero, List.set_cons_succ]
          refine wpAnyH_ready (rs := [13]) (by kernel_rfl) (by simp) (AllReadyH.cons ((List.getElem?_toArray ..).trans rfl) (fun KK hKK => ?_) AllReadyH.nil)
          have c0 := S.c 3 0 rfl rfl
          have f0 := S.f 3 0 rfl
          have c1 := S.c 3 1 rfl rfl
          have f1 := S.f 3 1 rfl
          go_simp
          clear hS c0 f0 c1 f1
          have H := S.hset 3 0 (.bool (negB zr)) rfl rfl (by intro q n e; cases e)
          replace S := S.set 3 0 (.bool (negB zr)) rfl
          replace n1 := n1.hold H
          replace d1 := d1.hold H
          replace na := na.hold H
          replace nz := nz.hold H
          replace HH := HH.trans H
          clear H
          have H := S.hset 3 1 (.slice pr lr Kr) rfl rfl (by intro q n e; cases e)
          replace S := S.set 3 1 (.slice pr lr Kr) rfl
          replace n1 := n1.hold H
          replace d1 := d1.hold H
          replace na := na.hold H
          replace nz := nz.hold H
          replace HH := HH.trans H
          clear H
          refine hKK.out _ _ ⟨S.c 0 0 rfl rfl, S.c 0 1 rfl rfl, S.c 0 2 rfl rfl⟩ (fun hS => ?_)
          generalize ((w7.setCell ⟨w5.heap.size, 0, none⟩ (.bool (negB zr))).setCell ⟨w5.heap.size, 1, none⟩ (.slice pr lr Kr)) = w8 at S n1 d1 na nz HH hS ⊢
          clear hKK KK
          try simp only [Act.put, List.setIfInBounds_toArray, List.set_cons_zero, List.set_cons_succ]
          refine wpAnyH_ready (rs := [14]) (by kernel_rfl) (by simp) (AllReadyH.cons ((List.getElem?_toArray ..).trans rfl) (fun KK hKK => ?_) AllReadyH.nil)
          go_simp
          refine hKK.out _ _ hS (fun hS => ?_)
          clear hKK KK
          try simp only [Act.put, List.setIfInBounds_toArray, List.set_cons_zero, List.set_cons_succ]
          refine wpAnyH_done (by kernel_rfl) ?_ _
          go_wp2_with fail
          go_meet
          case rel => exact ⟨w4.heap.size, pz, lz, Kz, rfl, S.sub (.cons_cons _ (.cons_cons _ (.cons_cons _ (.cons _ (.slnil))))), nz, HH⟩
        ·
          go_simp
          clear hS
          have H := S.hnew 25 [.bool false, .slice none 0 0]
          replace S := S.alloc 25 [.bool false, .slice none 0 0] (w4.heap.size)
          try simp only [List.cons_append, List.nil_append] at S
          replace n1 := n1.hold H
          replace d1 := d1.hold H
          replace na := na.hold H
          replace nz := nz.hold H
          replace HH := HH.trans H
          clear H
          refine hKK.out _ _ ⟨S.c 0 0 rfl rfl, S.c 0 1 rfl rfl, S.c 0 2 rfl rfl⟩ (fun hS => ?_)
          generalize (w4.alloc (.cells #[.bool false, .slice none 0 0] 25)) = w9 at S n1 d1 na nz HH hS ⊢
          clear hKK KK
          try simp only [Act.put, List.setIfInBounds_toArray, List.set_cons_zero, List.set_cons_succ]
          refine wpAnyH_ready (rs := [10]) (by kernel_rfl) (by simp) (AllReadyH.cons ((List.getElem?_toArray ..).trans rfl) (fun KK hKK => ?_) AllReadyH.nil)
          go_simp
          clear hS
          have H := S.hnew 25 [.bool false, .slice none 0 0]
          replace S := S.alloc 25 [.bool false, .slice none 0 0] (w9.heap.size)
          try simp only [List.cons_append, List.nil_append] at S
          replace n1 := n1.hold H
          replace d1 := d1.hold H
          replace na := na.hold H
          replace nz := nz.hold H
          replace HH := HH.trans H
          clear H
          refine hKK.out _ _ ⟨S.c 0 0 rfl rfl, S.c 0 1 rfl rfl, S.c 0 2 rfl rfl⟩ (fun hS => ?_)
          generalize (w9.alloc (.cells #[.bool false, .slice none 0 0] 25)) = w10 at S n1 d1 na nz HH hS ⊢
          clear hKK KK
          try simp only [Act.put, List.setIfInBounds_toArray, List.set_cons_zero, List.set_cons_succ]
          refine wpAnyH_ready (rs := [12]) (by kernel_rfl) (by simp) (AllReadyH.cons ((List.getElem?_toArray ..).trans rfl) (fun KK hKK => ?_) AllReadyH.nil)
          have c0 := S.c 3 0 rfl rfl
          have f0 := S.f 3 0 rfl
          have c1 := S.c 3 1 rfl rfl
          have f1 := S.f 3 1 rfl
          go_simp
          clear hS c0 f0 c1 f1
          have H := S.hset 3 0 (.bool (negB z)) rfl rfl (by intro q n e; cases e)
          replace S := S.set 3 0 (.bool (negB z)) rfl
          replace n1 := n1.hold H
          replace d1 := d1.hold H
          replace na := na.hold H
          replace nz := nz.hold H
          replace HH := HH.trans H
          clear H
          have H := S.hset 3 1 (.slice pz lz Kz) rfl rfl (by intro q n e; cases e)
          replace S := S.set 3 1 (.slice pz lz Kz) rfl
          replace n1 := n1.hold H
          replace d1 := d1.hold H
          replace na := na.hold H
          replace nz := nz.hold H
          replace HH := HH.trans H
          clear H
          refine hKK.out _ _ ⟨S.c 0 0 rfl rfl, S.c 0 1 rfl rfl, S.c 0 2 rfl rfl⟩ (fun hS => ?_)
          generalize ((w10.setCell ⟨w9.heap.size, 0, none⟩ (.bool (negB z))).setCell ⟨w9.heap.size, 1, none⟩ (.slice pz lz Kz)) = w11 at S n1 d1 na nz HH hS ⊢
          clear hKK KK
          try simp only [Act.put, List.setIfInBounds_toArray, List.set_cons_zero, List.set_cons_succ]
          refine wpAnyH_ready (rs := [13]) (by kernel_rfl) (by simp) (AllReadyH.cons ((List.getElem?_toArray ..).trans rfl) (fun KK hKK => ?_) AllReadyH.nil)
          have c0 := S.c 2 0 rfl rfl
          have f0 := S.f 2 0 rfl
          have c1 := S.c 2 1 rfl rfl
          have f1 := S.f 2 1 rfl
          go_simp
          clear hS c0 f0 c1 f1
          have H := S.hset 2 0 (.bool (negB zr)) rfl rfl (by intro q n e; cases e)
          replace S := S.set 2 0 (.bool (negB zr)) rfl
          replace n1 := n1.hold H
          replace d1 := d1.hold H
          replace na := na.hold H
          replace nz := nz.hold H
          replace HH := HH.trans H
          clear H
          have H := S.hset 2 1 (.slice pr lr Kr) rfl rfl (by intro q n e; cases e)
          replace S := S.set 2 1 (.slice pr lr Kr) rfl
          replace n1 := n1.hold H
          replace d1 := d1.hold H
          replace na := na.hold H
          replace nz := nz.hold H
          replace HH := HH.trans H
          clear H
          refine hKK.out _ _ ⟨S.c 0 0 rfl rfl, S.c 0 1 rfl rfl, S.c 0 2 rfl rfl⟩ (fun hS => ?_)
          generalize ((w11.setCell ⟨w4.heap.size, 0, none⟩ (.bool (negB zr))).setCell ⟨w4.heap.size, 1, none⟩ (.slice pr lr Kr)) = w12 at S n1 d1 na nz HH hS ⊢
          clear hKK KK
          try simp only [Act.put, List.setIfInBounds_toArray, List.set_cons_zero, List.set_cons_succ]
          refine wpAnyH_ready (rs := [14]) (by kernel_rfl) (by simp) (AllReadyH.cons ((List.getElem?_toArray ..).trans rfl) (fun KK hKK => ?_) AllReadyH.nil)
          go_simp
          refine hKK.out _ _ hS (fun hS => ?_)
          clear hKK KK
          try simp only [Act.put, List.setIfInBounds_toArray, List.set_cons_zero, List.set_cons_succ]
          refine wpAnyH_done (by kernel_rfl) ?_ _
          go_wp2_with fail
          go_meet
          case rel => exact ⟨w9.heap.size, pz, lz, Kz, rfl, S.sub (.cons_cons _ (.cons_cons _ (.cons _ (.cons_cons _ (.slnil))))), nz, HH⟩
      ·
        go_simp
        clear hS
        have H := S.hnew 25 [.bool false, .slice none 0 0]
        replace S := S.alloc 25 [.bool false, .slice none 0 0] (w3.heap.size)
        try simp only [List.cons_append, List.nil_append] at S
        replace n1 := n1.hold H
        replace d1 := d1.hold H
        replace na := na.hold H
        replace HH := HH.trans H
        clear H
        refine hKK.out _ _ ⟨S.c 0 0 rfl rfl, S.c 0 1 rfl rfl, S.c 0 2 rfl rfl⟩ (fun hS => ?_)
        generalize (w3.alloc (.cells #[.bool false, .slice none 0 0] 25)) = w13 at S n1 d1 na HH hS ⊢
        clear hKK KK
        try simp only [Act.put, List.setIfInBounds_toArray, List.set_cons_zero, List.set_cons_succ]
        refine wpAnyH_ready (rs := [5, 11]) (by kernel_rfl) (by simp) (AllReadyH.cons ((List.getElem?_toArray ..).trans rfl) (fun KK hKK => ?_) (AllReadyH.cons ((List.getElem?_toArray ..).trans rfl) (fun KK hKK => ?_) AllReadyH.nil))
        ·
          go_simp
          clear hS
          refine (S.call (wdiv_to ⟨_, _, _, by rw [hb1.out], n1⟩ ⟨_, _, _, rfl, na⟩ HX.out.1 HX.out.2 z zr HD.out.2.2 HD.out.1 HD.out.2.1)).mono ?_
          clear S
          rintro e w14 ⟨⟨_, _, rfl, ⟨pz, lz, Kz, rfl, nz⟩, ⟨pr, lr, Kr, rfl, nr⟩⟩, S, H⟩
          replace n1 := n1.hold H
          replace d1 := d1.hold H
          replace na := na.hold H
          replace HH := HH.trans H
          clear H
          go_wp2_with fail
          refine hKK.out _ _ ⟨S.c 0 0 rfl rfl, S.c 0 1 rfl rfl, S.c 0 2 rfl rfl⟩ (fun hS => ?_)
          clear hKK KK
          try simp only [Act.put, List.setIfInBounds_toArray, List.set_cons_zero, List.set_cons_succ]
          refine wpAnyH_take (i := 6) (v := ?_) ((List.getElem?_toArray ..).trans rfl) (by kernel_rfl) (by kernel_rfl) (by kernel_rfl) (fun _ _ _ h => h) (Or.inl ⟨rfl, fun W hW => ?_⟩) hS ?_
          rotate_left
          · obtain ⟨hW0, hW1, hW2⟩ := hW; go_simp; try first | rfl | (rw [if_neg (by first | omega | (simp only [ByteArray.size_append]; first | omega | (have h1 : (ByteArray.mk #[47]).size = 1 := rfl; omega)))]; try rfl) | kernel_rfl
          try simp only [Act.put, List.setIfInBounds_toArray, List.set_cons_zero, List.set_cons_succ]
          refine wpAnyH_take (i := 7) (v := ?_) ((List.getElem?_toArray ..).trans rfl) (by kernel_rfl) (by kernel_rfl) (by kernel_rfl) (fun _ _ _ h => h) (Or.inl ⟨rfl, fun W hW => ?_⟩) hS ?_
          rotate_left
          · obtain ⟨hW0, hW1, hW2⟩ := hW; go_simp; try first | rfl | (rw [if_neg (by first | omega | (simp only [ByteArray.size_append]; first | omega | (have h1 : (ByteArray.mk #[47]).size = 1 := rfl; omega)))]; try rfl) | kernel_rfl
          try simp only [Act.put, List.setIfInBounds_toArray, List.set_cons_zero, List.set_cons_succ]
          refine wpAnyH_take (i := 8) (v := ?_) ((List.getElem?_toArray ..).trans rfl) (by kernel_rfl) (by kernel_rfl) (by kernel_rfl) (fun _ _ _ h => h) (Or.inl ⟨rfl, fun W hW => ?_⟩) hS ?_
          rotate_left
          · obtain ⟨hW0, hW1, hW2⟩ := hW; go_simp; try first | rfl | (rw [if_neg (by first | omega | (simp only [ByteArray.size_append]; first | omega | (have h1 : (ByteArray.mk #[47]).size = 1 := rfl; omega)))]; try rfl) | kernel_rfl
          try simp only [Act.put, List.setIfInBounds_toArray, List.set_cons_zero, List.set_cons_succ]
          refine wpAnyH_take (i := 9) (v := ?_) ((List.getElem?_toArray ..).trans rfl) (by kernel_rfl) (by kernel_rfl) (by kernel_rfl) (fun _ _ _ h => h) (Or.inl ⟨rfl, fun W hW => ?_⟩) hS ?_
          rotate_left
          · obtain ⟨hW0, hW1, hW2⟩ := hW; go_simp; try first | rfl | (rw [if_neg (by first | omega | (simp only [ByteArray.size_append]; first | omega | (have h1 : (ByteArray.mk #[47]).size = 1 := rfl; omega)))]; try rfl) | kernel_rfl
          try simp only [Act.put, List.setIfInBounds_toArray, List.set_cons_zero, List.set_cons_succ]
          refine wpAnyH_ready (rs := [11]) (by kernel_rfl) (by simp) (AllReadyH.cons ((List.getElem?_toArray ..).trans rfl) (fun KK hKK => ?_) AllReadyH.nil)
          go_simp
          clear hS
          have H := S.hnew 25 [.bool false, .slice none 0 0]
          replace S := S.alloc 25 [.bool false, .slice none 0 0] (w14.heap.size)
          try simp only [List.cons_append, List.nil_append] at S
          replace n1 := n1.hold H
          replace d1 := d1.hold H
          replace na := na.hold H
          replace nz := nz.hold H
          replace HH := HH.trans H
          clear H
          refine hKK.out _ _ ⟨S.c 0 0 rfl rfl, S.c 0 1 rfl rfl, S.c 0 2 rfl rfl⟩ (fun hS => ?_)
          generalize (w14.alloc (.cells #[.bool false, .slice none 0 0] 25)) = w15 at S n1 d1 na nz HH hS ⊢
          clear hKK KK
          try simp only [Act.put, List.setIfInBounds_toArray, List.set_cons_zero, List.set_cons_succ]
          refine wpAnyH_ready (rs := [12]) (by kernel_rfl) (by simp) (AllReadyH.cons ((List.getElem?_toArray ..).trans rfl) (fun KK hKK => ?_) AllReadyH.nil)
          have c0 := S.c 2 0 rfl rfl
          have f0 := S.f 2 0 rfl
          have c1 := S.c 2 1 rfl rfl
          have f1 := S.f 2 1 rfl
          go_simp
          clear hS c0 f0 c1 f1
          have H := S.hset 2 0 (.bool (negB z)) rfl rfl (by intro q n e; cases e)
          replace S := S.set 2 0 (.bool (negB z)) rfl
          replace n1 := n1.hold H
          replace d1 := d1.hold H
          replace na := na.hold H
          replace nz := nz.hold H
          replace HH := HH.trans H
          clear H
          have H := S.hset 2 1 (.slice pz lz Kz) rfl rfl (by intro q n e; cases e)
          replace S := S.set 2 1 (.slice pz lz Kz) rfl
          replace n1 := n1.hold H
          replace d1 := d1.hold H
          replace na := na.hold H
          replace nz := nz.hold H
          replace HH := HH.trans H
          clear H
          refine hKK.out _ _ ⟨S.c 0 0 rfl rfl, S.c 0 1 rfl rfl, S.c 0 2 rfl rfl⟩ (fun hS => ?_)
          generalize ((w15.setCell ⟨w3.heap.size, 0, none⟩ (.bool (negB z))).setCell ⟨w3.heap.size, 1, none⟩ (.slice pz lz Kz)) = w16 at S n1 d1 na nz HH hS ⊢
          clear hKK KK
          try simp only [Act.put, List.setIfInBounds_toArray, List.set_cons_zero, List.set_cons_succ]
          refine wpAnyH_ready (rs := [13]) (by kernel_rfl) (by simp) (AllReadyH.cons ((List.getElem?_toArray ..).trans rfl) (fun KK hKK => ?_) AllReadyH.nil)
          have c0 := S.c 3 0 rfl rfl
          have f0 := S.f 3 0 rfl
          have c1 := S.c 3 1 rfl rfl
          have f1 := S.f 3 1 rfl
          go_simp
          clear hS c0 f0 c1 f1
          have H := S.hset 3 0 (.bool (negB zr)) rfl rfl (by intro q n e; cases e)
          replace S := S.set 3 0 (.bool (negB zr)) rfl
          replace n1 := n1.hold H
          replace d1 := d1.hold H
          replace na := na.hold H
          replace nz := nz.hold H
          replace HH := HH.trans H
          clear H
          have H := S.hset 3 1 (.slice pr lr Kr) rfl rfl (by intro q n e; cases e)
          replace S := S.set 3 1 (.slice pr lr Kr) rfl
          replace n1 := n1.hold H
          replace d1 := d1.hold H
          replace na := na.hold H
          replace nz := nz.hold H
          replace HH := HH.trans H
          clear H
          refine hKK.out _ _ ⟨S.c 0 0 rfl rfl, S.c 0 1 rfl rfl, S.c 0 2 rfl rfl⟩ (fun hS => ?_)
          generalize ((w16.setCell ⟨w14.heap.size, 0, none⟩ (.bool (negB zr))).setCell ⟨w14.heap.size, 1, none⟩ (.slice pr lr Kr)) = w17 at S n1 d1 na nz HH hS ⊢
          clear hKK KK
          try simp only [Act.put, List.setIfInBounds_toArray, List.set_cons_zero, List.set_cons_succ]
          refine wpAnyH_ready (rs := [14]) (by kernel_rfl) (by simp) (AllReadyH.cons ((List.getElem?_toArray ..).trans rfl) (fun KK hKK => ?_) AllReadyH.nil)
          go_simp
          refine hKK.out _ _ hS (fun hS => ?_)
          clear hKK KK
          try simp only [Act.put, List.setIfInBounds_toArray, List.set_cons_zero, List.set_cons_succ]
          refine wpAnyH_done (by kernel_rfl) ?_ _
          go_wp2_with fail
          go_meet
          case rel => exact ⟨w3.heap.size, pz, lz, Kz, rfl, S.sub (.cons_cons _ (.cons_cons _ (.cons_cons _ (.cons _ (.slnil))))), nz, HH⟩
        ·
          go_simp
          clear hS
          have H := S.hnew 25 [.bool false, .slice none 0 0]
          replace S := S.alloc 25 [.bool false, .slice none 0 0] (w13.heap.size)
          try simp only [List.cons_append, List.nil_append] at S
          replace n1 := n1.hold H
          replace d1 := d1.hold H
          replace na := na.hold H
          replace HH := HH.trans H
          clear H
          refine hKK.out _ _ ⟨S.c 0 0 rfl rfl, S.c 0 1 rfl rfl, S.c 0 2 rfl rfl⟩ (fun hS => ?_)
          generalize (w13.alloc (.cells #[.bool false, .slice none 0 0] 25)) = w18 at S n1 d1 na HH hS ⊢
          clear hKK KK
          try simp only [Act.put, List.setIfInBounds_toArray, List.set_cons_zero, List.set_cons_succ]
          refine wpAnyH_ready (rs := [5]) (by kernel_rfl) (by simp) (AllReadyH.cons ((List.getElem?_toArray ..).trans rfl) (fun KK hKK => ?_) AllReadyH.nil)
          go_simp
          clear hS
          refine (S.call (wdiv_to ⟨_, _, _, by rw [hb1.out], n1⟩ ⟨_, _, _, rfl, na⟩ HX.out.1 HX.out.2 z zr HD.out.2.2 HD.out.1 HD.out.2.1)).mono ?_
          clear S
          rintro e w19 ⟨⟨_, _, rfl, ⟨pz, lz, Kz, rfl, nz⟩, ⟨pr, lr, Kr, rfl, nr⟩⟩, S, H⟩
          replace n1 := n1.hold H
          replace d1 := d1.hold H
          replace na := na.hold H
          replace HH := HH.trans H
          clear H
          go_wp2_with fail
          refine hKK.out _ _ ⟨S.c 0 0 rfl rfl, S.c 0 1 rfl rfl, S.c 0 2 rfl rfl⟩ (fun hS => ?_)
          clear hKK KK
          try simp only [Act.put, List.setIfInBounds_toArray, List.set_cons_zero, List.set_cons_succ]
          refine wpAnyH_take (i := 6) (v := ?_) ((List.getElem?_toArray ..).trans rfl) (by kernel_rfl) (by kernel_rfl) (by kernel_rfl) (fun _ _ _ h => h) (Or.inl ⟨rfl, fun W hW => ?_⟩) hS ?_
          rotate_left
          · obtain ⟨hW0, hW1, hW2⟩ := hW; go_simp; try first | rfl | (rw [if_neg (by first | omega | (simp only [ByteArray.size_append]; first | omega | (have h1 : (ByteArray.mk #[47]).size = 1 := rfl; omega)))]; try rfl) | kernel_rfl
          try simp only [Act.put, List.setIfInBounds_toArray, List.set_cons_zero, List.set_cons_succ]
          refine wpAnyH_take (i := 7) (v := ?_) ((List.getElem?_toArray ..).trans rfl) (by kernel_rfl) (by kernel_rfl) (by kernel_rfl) (fun _ _ _ h => h) (Or.inl ⟨rfl, fun W hW => ?_⟩) hS ?_
          rotate_left
          · obtain ⟨hW0, hW1, hW2⟩ := hW; go_simp; try first | rfl | (rw [if_neg (by first | omega | (simp only [ByteArray.size_append]; first | omega | (have h1 : (ByteArray.mk #[47]).size = 1 := rfl; omega)))]; try rfl) | kernel_rfl
          try simp only [Act.put, List.setIfInBounds_toArray, List.set_cons_zero, List.set_cons_succ]
          refine wpAnyH_take (i := 8) (v := ?_) ((List.getElem?_toArray ..).trans rfl) (by kernel_rfl) (by kernel_rfl) (by kernel_rfl) (fun _ _ _ h => h) (Or.inl ⟨rfl, fun W hW => ?_⟩) hS ?_
          rotate_left
          · obtain ⟨hW0, hW1, hW2⟩ := hW; go_simp; try first | rfl | (rw [if_neg (by first | omega | (simp only [ByteArray.size_append]; first | omega | (have h1 : (ByteArray.mk #[47]).size = 1 := rfl; omega)))]; try rfl) | kernel_rfl
          try simp only [Act.put, List.setIfInBounds_toArray, List.set_cons_zero, List.set_cons_succ]
          refine wpAnyH_take (i := 9) (v := ?_) ((List.getElem?_toArray ..).trans rfl) (by kernel_rfl) (by kernel_rfl) (by kernel_rfl) (fun _ _ _ h => h) (Or.inl ⟨rfl, fun W hW => ?_⟩) hS ?_
          rotate_left
          · obtain ⟨hW0, hW1, hW2⟩ := hW; go_simp; try first | rfl | (rw [if_neg (by first | omega | (simp only [ByteArray.size_append]; first | omega | (have h1 : (ByteArray.mk #[47]).size = 1 := rfl; omega)))]; try rfl) | kernel_rfl
          try simp only [Act.put, List.setIfInBounds_toArray, List.set_cons_zero, List.set_cons_succ]
          refine wpAnyH_ready (rs := [12]) (by kernel_rfl) (by simp) (AllReadyH.cons ((List.getElem?_toArray ..).trans rfl) (fun KK hKK => ?_) AllReadyH.nil)
          have c0 := S.c 2 0 rfl rfl
          have f0 := S.f 2 0 rfl
          have c1 := S.c 2 1 rfl rfl
          have f1 := S.f 2 1 rfl
          go_simp
          clear hS c0 f0 c1 f1
          have H := S.hset 2 0 (.bool (negB z)) rfl rfl (by intro q n e; cases e)
          replace S := S.set 2 0 (.bool (negB z)) rfl
          replace n1 := n1.hold H
          replace d1 := d1.hold H
          replace na := na.hold H
          replace nz := nz.hold H
          replace HH := HH.trans H
          clear H
          have H := S.hset 2 1 (.slice pz lz Kz) rfl rfl (by intro q n e; cases e)
          replace S := S.set 2 1 (.slice pz lz Kz) rfl
          replace n1 := n1.hold H
          replace d1 := d1.hold H
          replace na := na.hold H
          replace nz := nz.hold H
          replace HH := HH.trans H
          clear H
          refine hKK.out _ _ ⟨S.c 0 0 rfl rfl, S.c 0 1 rfl rfl, S.c 0 2 rfl rfl⟩ (fun hS => ?_)
          generalize ((w19.setCell ⟨w3.heap.size, 0, none⟩ (.bool (negB z))).setCell ⟨w3.heap.size, 1, none⟩ (.slice pz lz Kz)) = w20 at S n1 d1 na nz HH hS ⊢
          clear hKK KK
          try simp only [Act.put, List.setIfInBounds_toArray, List.set_cons_zero, List.set_cons_succ]
          refine wpAnyH_ready (rs := [13]) (by kernel_rfl) (by simp) (AllReadyH.cons ((List.getElem?_toArray ..).trans rfl) (fun KK hKK => ?_) AllReadyH.nil)
          have c0 := S.c 3 0 rfl rfl
          have f0 := S.f 3 0 rfl
          have c1 := S.c 3 1 rfl rfl
          have f1 := S.f 3 1 rfl
          go_simp
          clear hS c0 f0 c1 f1
          have H := S.hset 3 0 (.bool (negB zr)) rfl rfl (by intro q n e; cases e)
          replace S := S.set 3 0 (.bool (negB zr)) rfl
          replace n1 := n1.hold H
          replace d1 := d1.hold H
          replace na := na.hold H
          replace nz := nz.hold H
          replace HH := HH.trans H
          clear H
          have H := S.hset 3 1 (.slice pr lr Kr) rfl rfl (by intro q n e; cases e)
          replace S := S.set 3 1 (.slice pr lr Kr) rfl
          replace n1 := n1.hold H
          replace d1 := d1.hold H
          replace na := na.hold H
          replace nz := nz.hold H
          replace HH := HH.trans H
          clear H
          refine hKK.out _ _ ⟨S.c 0 0 rfl rfl, S.c 0 1 rfl rfl, S.c 0 2 rfl rfl⟩ (fun hS => ?_)
          generalize ((w20.setCell ⟨w13.heap.size, 0, none⟩ (.bool (negB zr))).setCell ⟨w13.heap.size, 1, none⟩ (.slice pr lr Kr)) = w21 at S n1 d1 na nz HH hS ⊢
          clear hKK KK
          try simp only [Act.put, List.setIfInBounds_toArray, List.set_cons_zero, List.set_cons_succ]
          refine wpAnyH_ready (rs := [14]) (by kernel_rfl) (by simp) (AllReadyH.cons ((List.getElem?_toArray ..).trans rfl) (fun KK hKK => ?_) AllReadyH.nil)
          go_simp
          refine hKK.out _ _ hS (fun hS => ?_)
          clear hKK KK
          try simp only [Act.put, List.setIfInBounds_toArray, List.set_cons_zero, List.set_cons_succ]
          refine wpAnyH_done (by kernel_rfl) ?_ _
          go_wp2_with fail
          go_meet
          case rel => exact ⟨w3.heap.size, pz, lz, Kz, rfl, S.sub (.cons_cons _ (.cons_cons _ (.cons_cons _ (.cons _ (.slnil))))), nz, HH⟩
      ·
        go_simp
        clear hS
        have H := S.hnew 25 [.bool false, .slice none 0 0]
        replace S := S.alloc 25 [.bool false, .slice none 0 0] (w3.heap.size)
        try simp only [List.cons_append, List.nil_append] at S
        replace n1 := n1.hold H
        replace d1 := d1.hold H
        replace na := na.hold H
        replace HH := HH.trans H
        clear H
        refine hKK.out _ _ ⟨S.c 0 0 rfl rfl, S.c 0 1 rfl rfl, S.c 0 2 rfl rfl⟩ (fun hS => ?_)
        generalize (w3.alloc (.cells #[.bool false, .slice none 0 0] 25)) = w22 at S n1 d1 na HH hS ⊢
        clear hKK KK
        try simp only [Act.put, List.setIfInBounds_toArray, List.set_cons_zero, List.set_cons_succ]
        refine wpAnyH_ready (rs := [5, 10]) (by kernel_rfl) (by simp) (AllReadyH.cons ((List.getElem?_toArray ..).trans rfl) (fun KK hKK => ?_) (AllReadyH.cons ((List.getElem?_toArray ..).trans rfl) (fun KK hKK => ?_) AllReadyH.nil))
        ·
          go_simp
          clear hS
          refine (S.call (wdiv_to ⟨_, _, _, by rw [hb1.out], n1⟩ ⟨_, _, _, rfl, na⟩ HX.out.1 HX.out.2 z zr HD.out.2.2 HD.out.1 HD.out.2.1)).mono ?_
          clear S
          rintro e w23 ⟨⟨_, _, rfl, ⟨pz, lz, Kz, rfl, nz⟩, ⟨pr, lr, Kr, rfl, nr⟩⟩, S, H⟩
          replace n1 := n1.hold H
          replace d1 := d1.hold H
          replace na := na.hold H
          replace HH := HH.trans H
          clear H
          go_wp2_with fail
          refine hKK.out _ _ ⟨S.c 0 0 rfl rfl, S.c 0 1 rfl rfl, S.c 0 2 rfl rfl⟩ (fun hS => ?_)
          clear hKK KK
          try simp only [Act.put, List.setIfInBounds_toArray, List.set_cons_zero, List.set_cons_succ]
          refine wpAnyH_take (i := 6) (v := ?_) ((List.getElem?_toArray ..).trans rfl) (by kernel_rfl) (by kernel_rfl) (by kernel_rfl) (fun _ _ _ h => h) (Or.inl ⟨rfl, fun W hW => ?_⟩) hS ?_
          rotate_left
          · obtain ⟨hW0, hW1, hW2⟩ := hW; go_simp; try first | rfl | (rw [if_neg (by first | omega | (simp only [ByteArray.size_append]; first | omega | (have h1 : (ByteArray.mk #[47]).size = 1 := rfl; omega)))]; try rfl) | kernel_rfl
          try simp only [Act.put, List.setIfInBounds_toArray, List.set_cons_zero, List.set_cons_succ]
          refine wpAnyH_take (i := 7) (v := ?_) ((List.getElem?_toArray ..).trans rfl) (by kernel_rfl) (by kernel_rfl) (by kernel_rfl) (fun _ _ _ h => h) (Or.inl ⟨rfl, fun W hW => ?_⟩) hS ?_
          rotate_left
          · obtain ⟨hW0, hW1, hW2⟩ := hW; go_simp; try first | rfl | (rw [if_neg (by first | omega | (simp only [ByteArray.size_append]; first | omega | (have h1 : (ByteArray.mk #[47]).size = 1 := rfl; omega)))]; try rfl) | kernel_rfl
          try simp only [Act.put, List.setIfInBounds_toArray, List.set_cons_zero, List.set_cons_succ]
          refine wpAnyH_take (i := 8) (v := ?_) ((List.getElem?_toArray ..).trans rfl) (by kernel_rfl) (by kernel_rfl) (by kernel_rfl) (fun _ _ _ h => h) (Or.inl ⟨rfl, fun W hW => ?_⟩) hS ?_
          rotate_left
          · obtain ⟨hW0, hW1, hW2⟩ := hW; go_simp; try first | rfl | (rw [if_neg (by first | omega | (simp only [ByteArray.size_append]; first | omega | (have h1 : (ByteArray.mk #[47]).size = 1 := rfl; omega)))]; try rfl) | kernel_rfl
          try simp only [Act.put, List.setIfInBounds_toArray, List.set_cons_zero, List.set_cons_succ]
          refine wpAnyH_take (i := 9) (v := ?_) ((List.getElem?_toArray ..).trans rfl) (by kernel_rfl) (by kernel_rfl) (by kernel_rfl) (fun _ _ _ h => h) (Or.inl ⟨rfl, fun W hW => ?_⟩) hS ?_
          rotate_left
          · obtain ⟨hW0, hW1, hW2⟩ := hW; go_simp; try first | rfl | (rw [if_neg (by first | omega | (simp only [ByteArray.size_append]; first | omega | (have h1 : (ByteArray.mk #[47]).size = 1 := rfl; omega)))]; try rfl) | kernel_rfl
          try simp only [Act.put, List.setIfInBounds_toArray, List.set_cons_zero, List.set_cons_succ]
          refine wpAnyH_ready (rs := [10]) (by kernel_rfl) (by simp) (AllReadyH.cons ((List.getElem?_toArray ..).trans rfl) (fun KK hKK => ?_) AllReadyH.nil)
          go_simp
          clear hS
          have H := S.hnew 25 [.bool false, .slice none 0 0]
          replace S := S.alloc 25 [.bool false, .slice none 0 0] (w23.heap.size)
          try simp only [List.cons_append, List.nil_append] at S
          replace n1 := n1.hold H
          replace d1 := d1.hold H
          replace na := na.hold H
          replace nz := nz.hold H
          replace HH := HH.trans H
          clear H
          refine hKK.out _ _ ⟨S.c 0 0 rfl rfl, S.c 0 1 rfl rfl, S.c 0 2 rfl rfl⟩ (fun hS => ?_)
          generalize (w23.alloc (.cells #[.bool false, .slice none 0 0] 25)) = w24 at S n1 d1 na nz HH hS ⊢
          clear hKK KK
          try simp only [Act.put, List.setIfInBounds_toArray, List.set_cons_zero, List.set_cons_succ]
          refine wpAnyH_ready (rs := [12]) (by kernel_rfl) (by simp) (AllReadyH.cons ((List.getElem?_toArray ..).trans rfl) (fun KK hKK => ?_) AllReadyH.nil)
          have c0 := S.c 3 0 rfl rfl
          have f0 := S.f 3 0 rfl
          have c1 := S.c 3 1 rfl rfl
          have f1 := S.f 3 1 rfl
          go_simp
          clear hS c0 f0 c1 f1
          have H := S.hset 3 0 (.bool (negB z)) rfl rfl (by intro q n e; cases e)
          replace S := S.set 3 0 (.bool (negB z)) rfl
          replace n1 := n1.hold H
          replace d1 := d1.hold H
          replace na := na.hold H
          replace nz := nz.hold H
          replace HH := HH.trans H
          clear H
          have H := S.hset 3 1 (.slice pz lz Kz) rfl rfl (by intro q n e; cases e)
          replace S := S.set 3 1 (.slice pz lz Kz) rfl
          replace n1 := n1.hold H
          replace d1 := d1.hold H
          replace na := na.hold H
          replace nz := nz.hold H
          replace HH := HH.trans H
          clear H
          refine hKK.out _ _ ⟨S.c 0 0 rfl rfl, S.c 0 1 rfl rfl, S.c 0 2 rfl rfl⟩ (fun hS => ?_)
          generalize ((w24.setCell ⟨w23.heap.size, 0, none⟩ (.bool (negB z))).setCell ⟨w23.heap.size, 1, none⟩ (.slice pz lz Kz)) = w25 at S n1 d1 na nz HH hS ⊢
          clear hKK KK
          try simp only [Act.put, List.setIfInBounds_toArray, List.set_cons_zero, List.set_cons_succ]
          refine wpAnyH_ready (rs := [13]) (by kernel_rfl) (by simp) (AllReadyH.cons ((List.getElem?_toArray ..).trans rfl) (fun KK hKK => ?_) AllReadyH.nil)
          have c0 := S.c 2 0 rfl rfl
          have f0 := S.f 2 0 rfl
          have c1 := S.c 2 1 rfl rfl
          have f1 := S.f 2 1 rfl
          go_simp
          clear hS c0 f0 c1 f1
          have H := S.hset 2 0 (.bool (negB zr)) rfl rfl (by intro q n e; cases e)
          replace S := S.set 2 0 (.bool (negB zr)) rfl
          replace n1 := n1.hold H
          replace d1 := d1.hold H
          replace na := na.hold H
          replace nz := nz.hold H
          replace HH := HH.trans H
          clear H
          have H := S.hset 2 1 (.slice pr lr Kr) rfl rfl (by intro q n e; cases e)
          replace S := S.set 2 1 (.slice pr lr Kr) rfl
          replace n1 := n1.hold H
          replace d1 := d1.hold H
          replace na := na.hold H
          replace nz := nz.hold H
          replace HH := HH.trans H
          clear H
          refine hKK.out _ _ ⟨S.c 0 0 rfl rfl, S.c 0 1 rfl rfl, S.c 0 2 rfl rfl⟩ (fun hS => ?_)
          generalize ((w25.setCell ⟨w3.heap.size, 0, none⟩ (.bool (negB zr))).setCell ⟨w3.heap.size, 1, none⟩ (.slice pr lr Kr)) = w26 at S n1 d1 na nz HH hS ⊢
          clear hKK KK
          try simp only [Act.put, List.setIfInBounds_toArray, List.set_cons_zero, List.set_cons_succ]
          refine wpAnyH_ready (rs := [14]) (by kernel_rfl) (by simp) (AllReadyH.cons ((List.getElem?_toArray ..).trans rfl) (fun KK hKK => ?_) AllReadyH.nil)
          go_simp
          refine hKK.out _ _ hS (fun hS => ?_)
          clear hKK KK
          try simp only [Act.put, List.setIfInBounds_toArray, List.set_cons_zero, List.set_cons_succ]
          refine wpAnyH_done (by kernel_rfl) ?_ _
          go_wp2_with fail
          go_meet
          case rel => exact ⟨w23.heap.size, pz, lz, Kz, rfl, S.sub (.cons_cons _ (.cons_cons _ (.cons _ (.cons_cons _ (.slnil))))), nz, HH⟩
        ·
          go_simp
          clear hS
          have H := S.hnew 25 [.bool false, .slice none 0 0]
          replace S := S.alloc 25 [.bool false, .slice none 0 0] (w22.heap.size)
          try simp only [List.cons_append, List.nil_append] at S
          replace n1 := n1.hold H
          replace d1 := d1.hold H
          replace na := na.hold H
          replace HH := HH.trans H
          clear H
          refine hKK.out _ _ ⟨S.c 0 0 rfl rfl, S.c 0 1 rfl rfl, S.c 0 2 rfl rfl⟩ (fun hS => ?_)
          generalize (w22.alloc (.cells #[.bool false, .slice none 0 0] 25)) = w27 at S n1 d1 na HH hS ⊢
          clear hKK KK
          try simp only [Act.put, List.setIfInBounds_toArray, List.set_cons_zero, List.set_cons_succ]
          refine wpAnyH_ready (rs := [5]) (by kernel_rfl) (by simp) (AllReadyH.cons ((List.getElem?_toArray ..).trans rfl) (fun KK hKK => ?_) AllReadyH.nil)
          go_simp
          clear hS
          refine (S.call (wdiv_to ⟨_, _, _, by rw [hb1.out], n1⟩ ⟨_, _, _, rfl, na⟩ HX.out.1 HX.out.2 z zr HD.out.2.2 HD.out.1 HD.out.2.1)).mono ?_
          clear S
          rintro e w28 ⟨⟨_, _, rfl, ⟨pz, lz, Kz, rfl, nz⟩, ⟨pr, lr, Kr, rfl, nr⟩⟩, S, H⟩
          replace n1 := n1.hold H
          replace d1 := d1.hold H
          replace na := na.hold H
          replace HH := HH.trans H
          clear H
          go_wp2_with fail
          refine hKK.out _ _ ⟨S.c 0 0 rfl rfl, S.c 0 1 rfl rfl, S.c 0 2 rfl rfl⟩ (fun hS => ?_)
          clear hKK KK
          try simp only [Act.put, List.setIfInBounds_toArray, List.set_cons_zero, List.set_cons_succ]
          refine wpAnyH_take (i := 6) (v := ?_) ((List.getElem?_toArray ..).trans rfl) (by kernel_rfl) (by kernel_rfl) (by kernel_rfl) (fun _ _ _ h => h) (Or.inl ⟨rfl, fun W hW => ?_⟩) hS ?_
          rotate_left
          · obtain ⟨hW0, hW1, hW2⟩ := hW; go_simp; try first | rfl | (rw [if_neg (by first | omega | (simp only [ByteArray.size_append]; first | omega | (have h1 : (ByteArray.mk #[47]).size = 1 := rfl; omega)))]; try rfl) | kernel_rfl
          try simp only [Act.put, List.setIfInBounds_toArray, List.set_cons_zero, List.set_cons_succ]
          refine wpAnyH_take (i := 7) (v := ?_) ((List.getElem?_toArray ..).trans rfl) (by kernel_rfl) (by kernel_rfl) (by kernel_rfl) (fun _ _ _ h => h) (Or.inl ⟨rfl, fun W hW => ?_⟩) hS ?_
          rotate_left
          · obtain ⟨hW0, hW1, hW2⟩ := hW; go_simp; try first | rfl | (rw [if_neg (by first | omega | (simp only [ByteArray.size_append]; first | omega | (have h1 : (ByteArray.mk #[47]).size = 1 := rfl; omega)))]; try rfl) | kernel_rfl
          try simp only [Act.put, List.setIfInBounds_toArray, List.set_cons_zero, List.set_cons_succ]
          refine wpAnyH_take (i := 8) (v := ?_) ((List.getElem?_toArray ..).trans rfl) (by kernel_rfl) (by kernel_rfl) (by kernel_rfl) (fun _ _ _ h => h) (Or.inl ⟨rfl, fun W hW => ?_⟩) hS ?_
          rotate_left
          · obtain ⟨hW0, hW1, hW2⟩ := hW; go_simp; try first | rfl | (rw [if_neg (by first | omega | (simp only [ByteArray.size_append]; first | omega | (have h1 : (ByteArray.mk #[47]).size = 1 := rfl; omega)))]; try rfl) | kernel_rfl
          try simp only [Act.put, List.setIfInBounds_toArray, List.set_cons_zero, List.set_cons_succ]
          refine wpAnyH_take (i := 9) (v := ?_) ((List.getElem?_toArray ..).trans rfl) (by kernel_rfl) (by kernel_rfl) (by kernel_rfl) (fun _ _ _ h => h) (Or.inl ⟨rfl, fun W hW => ?_⟩) hS ?_
          rotate_left
          · obtain ⟨hW0, hW1, hW2⟩ := hW; go_simp; try first | rfl | (rw [if_neg (by first | omega | (simp only [ByteArray.size_append]; first | omega | (have h1 : (ByteArray.mk #[47]).size = 1 := rfl; omega)))]; try rfl) | kernel_rfl
          try simp only [Act.put, List.setIfInBounds_toArray, List.set_cons_zero, List.set_cons_succ]
          refine wpAnyH_ready (rs := [12]) (by kernel_rfl) (by simp) (AllReadyH.cons ((List.getElem?_toArray ..).trans rfl) (fun KK hKK => ?_) AllReadyH.nil)
          have c0 := S.c 3 0 rfl rfl
          have f0 := S.f 3 0 rfl
          have c1 := S.c 3 1 rfl rfl
          have f1 := S.f 3 1 rfl
          go_simp
          clear hS c0 f0 c1 f1
          have H := S.hset 3 0 (.bool (negB z)) rfl rfl (by intro q n e; cases e)
          replace S := S.set 3 0 (.bool (negB z)) rfl
          replace n1 := n1.hold H
          replace d1 := d1.hold H
          replace na := na.hold H
          replace nz := nz.hold H
          replace HH := HH.trans H
          clear H
          have H := S.hset 3 1 (.slice pz lz Kz) rfl rfl (by intro q n e; cases e)
          replace S := S.set 3 1 (.slice pz lz Kz) rfl
          replace n1 := n1.hold H
          replace d1 := d1.hold H
          replace na := na.hold H
          replace nz := nz.hold H
          replace HH := HH.trans H
          clear H
          refine hKK.out _ _ ⟨S.c 0 0 rfl rfl, S.c 0 1 rfl rfl, S.c 0 2 rfl rfl⟩ (fun hS => ?_)
          generalize ((w28.setCell ⟨w22.heap.size, 0, none⟩ (.bool (negB z))).setCell ⟨w22.heap.size, 1, none⟩ (.slice pz lz Kz)) = w29 at S n1 d1 na nz HH hS ⊢
          clear hKK KK
          try simp only [Act.put, List.setIfInBounds_toArray, List.set_cons_zero, List.set_cons_succ]
          refine wpAnyH_ready (rs := [13]) (by kernel_rfl) (by simp) (AllReadyH.cons ((List.getElem?_toArray ..).trans rfl) (fun KK hKK => ?_) AllReadyH.nil)
          have c0 := S.c 2 0 rfl rfl
          have f0 := S.f 2 0 rfl
          have c1 := S.c 2 1 rfl rfl
          have f1 := S.f 2 1 rfl
          go_simp
          clear hS c0 f0 c1 f1
          have H := S.hset 2 0 (.bool (negB zr)) rfl rfl (by intro q n e; cases e)
          replace S := S.set 2 0 (.bool (negB zr)) rfl
          replace n1 := n1.hold H
          replace d1 := d1.hold H
          replace na := na.hold H
          replace nz := nz.hold H
          replace HH := HH.trans H
          clear H
          have H := S.hset 2 1 (.slice pr lr Kr) rfl rfl (by intro q n e; cases e)
          replace S := S.set 2 1 (.slice pr lr Kr) rfl
          replace n1 := n1.hold H
          replace d1 := d1.hold H
          replace na := na.hold H
          replace nz := nz.hold H
          replace HH := HH.trans H
          clear H
          refine hKK.out _ _ ⟨S.c 0 0 rfl rfl, S.c 0 1 rfl rfl, S.c 0 2 rfl rfl⟩ (fun hS => ?_)
          generalize ((w29.setCell ⟨w3.heap.size, 0, none⟩ (.bool (negB zr))).setCell ⟨w3.heap.size, 1, none⟩ (.slice pr lr Kr)) = w30 at S n1 d1 na nz HH hS ⊢
          clear hKK KK
          try simp only [Act.put, List.setIfInBounds_toArray, List.set_cons_zero, List.set_cons_succ]
          refine wpAnyH_ready (rs := [14]) (by kernel_rfl) (by simp) (AllReadyH.cons ((List.getElem?_toArray ..).trans rfl) (fun KK hKK => ?_) AllReadyH.nil)
          go_simp
          refine hKK.out _ _ hS (fun hS => ?_)
          clear hKK KK
          try simp only [Act.put, List.setIfInBounds_toArray, List.set_cons_zero, List.set_cons_succ]
          refine wpAnyH_done (by kernel_rfl) ?_ _
          go_wp2_with fail
          go_meet
          case rel => exact ⟨w22.heap.size, pz, lz, Kz, rfl, S.sub (.cons_cons _ (.cons_cons _ (.cons _ (.cons_cons _ (.slnil))))), nz, HH⟩
    ·
      go_simp
      clear hS
      have H := S.hnew 25 [.bool false, .slice none 0 0]
      replace S := S.alloc 25 [.bool false, .slice none 0 0] (w2.heap.size)
      try simp only [List.cons_append, List.nil_append] at S
      replace n1 := n1.hold H
      replace d1 := d1.hold H
      replace HH := HH.trans H
      clear H
      refine hKK.out _ _ ⟨S.c 0 0 rfl rfl, S.c 0 1 rfl rfl, S.c 0 2 rfl rfl⟩ (fun hS => ?_)
      generalize (w2.alloc (.cells #[.bool false, .slice none 0 0] 25)) = w31 at S n1 d1 HH hS ⊢
      clear hKK KK
      try simp only [Act.put, List.setIfInBounds_toArray, List.set_cons_zero, List.set_cons_succ]
      refine wpAnyH_ready (rs := [4, 11]) (by kernel_rfl) (by simp) (AllReadyH.cons ((List.getElem?_toArray ..).trans rfl) (fun KK hKK => ?_) (AllReadyH.cons ((List.getElem?_toArray ..).trans rfl) (fun KK hKK => ?_) AllReadyH.nil))
      ·
        go_simp
        clear hS
        refine (S.call (wnat_any d1 HX.out.2 (x.den : Int) rfl)).mono ?_
        clear S
        rintro e w32 ⟨⟨_, rfl, pa, la, Ka, rfl, na⟩, S, H⟩
        replace n1 := n1.hold H
        replace d1 := d1.hold H
        replace HH := HH.trans H
        clear H
        go_wp2_with fail
        refine hKK.out _ _ ⟨S.c 0 0 rfl rfl, S.c 0 1 rfl rfl, S.c 0 2 rfl rfl⟩ (fun hS => ?_)
        clear hKK KK
        try simp only [Act.put, List.setIfInBounds_toArray, List.set_cons_zero, List.set_cons_succ]
        refine wpAnyH_ready (rs := [5, 11]) (by kernel_rfl) (by simp) (AllReadyH.cons ((List.getElem?_toArray ..).trans rfl) (fun KK hKK => ?_) (AllReadyH.cons ((List.getElem?_toArray ..).trans rfl) (fun KK hKK => ?_) AllReadyH.nil))
        ·
          go_simp
          clear hS
          refine (S.call (wdiv_to ⟨_, _, _, by rw [hb1.out], n1⟩ ⟨_, _, _, rfl, na⟩ HX.out.1 HX.out.2 z zr HD.out.2.2 HD.out.1 HD.out.2.1)).mono ?_
          clear S
          rintro e w33 ⟨⟨_, _, rfl, ⟨pz, lz, Kz, rfl, nz⟩, ⟨pr, lr, Kr, rfl, nr⟩⟩, S, H⟩
          replace n1 := n1.hold H
          replace d1 := d1.hold H
          replace na := na.hold H
          replace HH := HH.trans H
          clear H
          go_wp2_with fail
          refine hKK.out _ _ ⟨S.c 0 0 rfl rfl, S.c 0 1 rfl rfl, S.c 0 2 rfl rfl⟩ (fun hS => ?_)
          clear hKK KK
          try simp only [Act.put, List.setIfInBounds_toArray, List.set_cons_zero, List.set_cons_succ]
          refine wpAnyH_take (i := 6) (v := ?_) ((List.getElem?_toArray ..).trans rfl) (by kernel_rfl) (by kernel_rfl) (by kernel_rfl) (fun _ _ _ h => h) (Or.inl ⟨rfl, fun W hW => ?_⟩) hS ?_
          rotate_left
          · obtain ⟨hW0, hW1, hW2⟩ := hW; go_simp; try first | rfl | (rw [if_neg (by first | omega | (simp only [ByteArray.size_append]; first | omega | (have h1 : (ByteArray.mk #[47]).size = 1 := rfl; omega)))]; try rfl) | kernel_rfl
          try simp only [Act.put, List.setIfInBounds_toArray, List.set_cons_zero, List.set_cons_succ]
          refine wpAnyH_take (i := 7) (v := ?_) ((List.getElem?_toArray ..).trans rfl) (by kernel_rfl) (by kernel_rfl) (by kernel_rfl) (fun _ _ _ h => h) (Or.inl ⟨rfl, fun W hW => ?_⟩) hS ?_
          rotate_left
          · obtain ⟨hW0, hW1, hW2⟩ := hW; go_simp; try first | rfl | (rw [if_neg (by first | omega | (simp only [ByteArray.size_append]; first | omega | (have h1 : (ByteArray.mk #[47]).size = 1 := rfl; omega)))]; try rfl) | kernel_rfl
          try simp only [Act.put, List.setIfInBounds_toArray, List.set_cons_zero, List.set_cons_succ]
          refine wpAnyH_take (i := 8) (v := ?_) ((List.getElem?_toArray ..).trans rfl) (by kernel_rfl) (by kernel_rfl) (by kernel_rfl) (fun _ _ _ h => h) (Or.inl ⟨rfl, fun W hW => ?_⟩) hS ?_
          rotate_left
          · obtain ⟨hW0, hW1, hW2⟩ := hW; go_simp; try first | rfl | (rw [if_neg (by first | omega | (simp only [ByteArray.size_append]; first | omega | (have h1 : (ByteArray.mk #[47]).size = 1 := rfl; omega)))]; try rfl) | kernel_rfl
          try simp only [Act.put, List.setIfInBounds_toArray, List.set_cons_zero, List.set_cons_succ]
          refine wpAnyH_take (i := 9) (v := ?_) ((List.getElem?_toArray ..).trans rfl) (by kernel_rfl) (by kernel_rfl) (by kernel_rfl) (fun _ _ _ h => h) (Or.inl ⟨rfl, fun W hW => ?_⟩) hS ?_
          rotate_left
          · obtain ⟨hW0, hW1, hW2⟩ := hW; go_simp; try first | rfl | (rw [if_neg (by first | omega | (simp only [ByteArray.size_append]; first | omega | (have h1 : (ByteArray.mk #[47]).size = 1 := rfl; omega)))]; try rfl) | kernel_rfl
          try simp only [Act.put, List.setIfInBounds_toArray, List.set_cons_zero, List.set_cons_succ]
          refine wpAnyH_ready (rs := [11]) (by kernel_rfl) (by simp) (AllReadyH.cons ((List.getElem?_toArray ..).trans rfl) (fun KK hKK => ?_) AllReadyH.nil)
          go_simp
          clear hS
          have H := S.hnew 25 [.bool false, .slice none 0 0]
          replace S := S.alloc 25 [.bool false, .slice none 0 0] (w33.heap.size)
          try simp only [List.cons_append, List.nil_append] at S
          replace n1 := n1.hold H
          replace d1 := d1.hold H
          replace na := na.hold H
          replace nz := nz.hold H
          replace HH := HH.trans H
          clear H
          refine hKK.out _ _ ⟨S.c 0 0 rfl rfl, S.c 0 1 rfl rfl, S.c 0 2 rfl rfl⟩ (fun hS => ?_)
          generalize (w33.alloc (.cells #[.bool false, .slice none 0 0] 25)) = w34 at S n1 d1 na nz HH hS ⊢
          clear hKK KK
          try simp only [Act.put, List.setIfInBounds_toArray, List.set_cons_zero, List.set_cons_succ]
          refine wpAnyH_ready (rs := [12]) (by kernel_rfl) (by simp) (AllReadyH.cons ((List.getElem?_toArray ..).trans rfl) (fun KK hKK => ?_) AllReadyH.nil)
          have c0 := S.c 2 0 rfl rfl
          have f0 := S.f 2 0 rfl
          have c1 := S.c 2 1 rfl rfl
          have f1 := S.f 2 1 rfl
          go_simp
          clear hS c0 f0 c1 f1
          have H := S.hset 2 0 (.bool (negB z)) rfl rfl (by intro q n e; cases e)
          replace S := S.set 2 0 (.bool (negB z)) rfl
          replace n1 := n1.hold H
          replace d1 := d1.hold H
          replace na := na.hold H
          replace nz := nz.hold H
          replace HH := HH.trans H
          clear H
          have H := S.hset 2 1 (.slice pz lz Kz) rfl rfl (by intro q n e; cases e)
          replace S := S.set 2 1 (.slice pz lz Kz) rfl
          replace n1 := n1.hold H
          replace d1 := d1.hold H
          replace na := na.hold H
          replace nz := nz.hold H
          replace HH := HH.trans H
          clear H
          refine hKK.out _ _ ⟨S.c 0 0 rfl rfl, S.c 0 1 rfl rfl, S.c 0 2 rfl rfl⟩ (fun hS => ?_)
          generalize ((w34.setCell ⟨w2.heap.size, 0, none⟩ (.bool (negB z))).setCell ⟨w2.heap.size, 1, none⟩ (.slice pz lz Kz)) = w35 at S n1 d1 na nz HH hS ⊢
          clear hKK KK
          try simp only [Act.put, List.setIfInBounds_toArray, List.set_cons_zero, List.set_cons_succ]
          refine wpAnyH_ready (rs := [13]) (by kernel_rfl) (by simp) (AllReadyH.cons ((List.getElem?_toArray ..).trans rfl) (fun KK hKK => ?_) AllReadyH.nil)
          have c0 := S.c 3 0 rfl rfl
          have f0 := S.f 3 0 rfl
          have c1 := S.c 3 1 rfl rfl
          have f1 := S.f 3 1 rfl
          go_simp
          clear hS c0 f0 c1 f1
          have H := S.hset 3 0 (.bool (negB zr)) rfl rfl (by intro q n e; cases e)
          replace S := S.set 3 0 (.bool (negB zr)) rfl
          replace n1 := n1.hold H
          replace d1 := d1.hold H
          replace na := na.hold H
          replace nz := nz.hold H
          replace HH := HH.trans H
          clear H
          have H := S.hset 3 1 (.slice pr lr Kr) rfl rfl (by intro q n e; cases e)
          replace S := S.set 3 1 (.slice pr lr Kr) rfl
          replace n1 := n1.hold H
          replace d1 := d1.hold H
          replace na := na.hold H
          replace nz := nz.hold H
          replace HH := HH.trans H
          clear H
          refine hKK.out _ _ ⟨S.c 0 0 rfl rfl, S.c 0 1 rfl rfl, S.c 0 2 rfl rfl⟩ (fun hS => ?_)
          generalize ((w35.setCell ⟨w33.heap.size, 0, none⟩ (.bool (negB zr))).setCell ⟨w33.heap.size, 1, none⟩ (.slice pr lr Kr)) = w36 at S n1 d1 na nz HH hS ⊢
          clear hKK KK
          try simp only [Act.put, List.setIfInBounds_toArray, List.set_cons_zero, List.set_cons_succ]
          refine wpAnyH_ready (rs := [14]) (by kernel_rfl) (by simp) (AllReadyH.cons ((List.getElem?_toArray ..).trans rfl) (fun KK hKK => ?_) AllReadyH.nil)
          go_simp
          refine hKK.out _ _ hS (fun hS => ?_)
          clear hKK KK
          try simp only [Act.put, List.setIfInBounds_toArray, List.set_cons_zero, List.set_cons_succ]
          refine wpAnyH_done (by kernel_rfl) ?_ _
          go_wp2_with fail
          go_meet
          case rel => exact ⟨w2.heap.size, pz, lz, Kz, rfl, S.sub (.cons_cons _ (.cons_cons _ (.cons_cons _ (.cons _ (.slnil))))), nz, HH⟩
        ·
          go_simp
          clear hS
          have H := S.hnew 25 [.bool false, .slice none 0 0]
          replace S := S.alloc 25 [.bool false, .slice none 0 0] (w32.heap.size)
          try simp only [List.cons_append, List.nil_append] at S
          replace n1 := n1.hold H
          replace d1 := d1.hold H
          replace na := na.hold H
          replace HH := HH.trans H
          clear H
          refine hKK.out _ _ ⟨S.c 0 0 rfl rfl, S.c 0 1 rfl rfl, S.c 0 2 rfl rfl⟩ (fun hS => ?_)
          generalize (w32.alloc (.cells #[.bool false, .slice none 0 0] 25)) = w37 at S n1 d1 na HH hS ⊢
          clear hKK KK
          try simp only [Act.put, List.setIfInBounds_toArray, List.set_cons_zero, List.set_cons_succ]
          refine wpAnyH_ready (rs := [5]) (by kernel_rfl) (by simp) (AllReadyH.cons ((List.getElem?_toArray ..).trans rfl) (fun KK hKK => ?_) AllReadyH.nil)
          go_simp
          clear hS
          refine (S.call (wdiv_to ⟨_, _, _, by rw [hb1.out], n1⟩ ⟨_, _, _, rfl, na⟩ HX.out.1 HX.out.2 z zr HD.out.2.2 HD.out.1 HD.out.2.1)).mono ?_
          clear S
          rintro e w38 ⟨⟨_, _, rfl, ⟨pz, lz, Kz, rfl, nz⟩, ⟨pr, lr, Kr, rfl, nr⟩⟩, S, H⟩
          replace n1 := n1.hold H
          replace d1 := d1.hold H
          replace na := na.hold H
          replace HH := HH.trans H
          clear H
          go_wp2_with fail
          refine hKK.out _ _ ⟨S.c 0 0 rfl rfl, S.c 0 1 rfl rfl, S.c 0 2 rfl rfl⟩ (fun hS => ?_)
          clear hKK KK
          try simp only [Act.put, List.setIfInBounds_toArray, List.set_cons_zero, List.set_cons_succ]
          refine wpAnyH_take (i := 6) (v := ?_) ((List.getElem?_toArray ..).trans rfl) (by kernel_rfl) (by kernel_rfl) (by kernel_rfl) (fun _ _ _ h => h) (Or.inl ⟨rfl, fun W hW => ?_⟩) hS ?_
          rotate_left
          · obtain ⟨hW0, hW1, hW2⟩ := hW; go_simp; try first | rfl | (rw [if_neg (by first | omega | (simp only [ByteArray.size_append]; first | omega | (have h1 : (ByteArray.mk #[47]).size = 1 := rfl; omega)))]; try rfl) | kernel_rfl
          try simp only [Act.put, List.setIfInBounds_toArray, List.set_cons_zero, List.set_cons_succ]
          refine wpAnyH_take (i := 7) (v := ?_) ((List.getElem?_toArray ..).trans rfl) (by kernel_rfl) (by kernel_rfl) (by kernel_rfl) (fun _ _ _ h => h) (Or.inl ⟨rfl, fun W hW => ?_⟩) hS ?_
          rotate_left
          · obtain ⟨hW0, hW1, hW2⟩ := hW; go_simp; try first | rfl | (rw [if_neg (by first | omega | (simp only [ByteArray.size_append]; first | omega | (have h1 : (ByteArray.mk #[47]).size = 1 := rfl; omega)))]; try rfl) | kernel_rfl
          try simp only [Act.put, List.setIfInBounds_toArray, List.set_cons_zero, List.set_cons_succ]
          refine wpAnyH_take (i := 8) (v := ?_) ((List.getElem?_toArray ..).trans rfl) (by kernel_rfl) (by kernel_rfl) (by kernel_rfl) (fun _ _ _ h => h) (Or.inl ⟨rfl, fun W hW => ?_⟩) hS ?_
          rotate_left
          · obtain ⟨hW0, hW1, hW2⟩ := hW; go_simp; try first | rfl | (rw [if_neg (by first | omega | (simp only [ByteArray.size_append]; first | omega | (have h1 : (ByteArray.mk #[47]).size = 1 := rfl; omega)))]; try rfl) | kernel_rfl
          try simp only [Act.put, List.setIfInBounds_toArray, List.set_cons_zero, List.set_cons_succ]
          refine wpAnyH_take (i := 9) (v := ?_) ((List.getElem?_toArray ..).trans rfl) (by kernel_rfl) (by kernel_rfl) (by kernel_rfl) (fun _ _ _ h => h) (Or.inl ⟨rfl, fun W hW => ?_⟩) hS ?_
          rotate_left
          · obtain ⟨hW0, hW1, hW2⟩ := hW; go_simp; try first | rfl | (rw [if_neg (by first | omega | (simp only [ByteArray.size_append]; first | omega | (have h1 : (ByteArray.mk #[47]).size = 1 := rfl; omega)))]; try rfl) | kernel_rfl
          try simp only [Act.put, List.setIfInBounds_toArray, List.set_cons_zero, List.set_cons_succ]
          refine wpAnyH_ready (rs := [12]) (by kernel_rfl) (by simp) (AllReadyH.cons ((List.getElem?_toArray ..).trans rfl) (fun KK hKK => ?_) AllReadyH.nil)
          have c0 := S.c 2 0 rfl rfl
          have f0 := S.f 2 0 rfl
          have c1 := S.c 2 1 rfl rfl
          have f1 := S.f 2 1 rfl
          go_simp
          clear hS c0 f0 c1 f1
          have H := S.hset 2 0 (.bool (negB z)) rfl rfl (by intro q n e; cases e)
          replace S := S.set 2 0 (.bool (negB z)) rfl
          replace n1 := n1.hold H
          replace d1 := d1.hold H
          replace na := na.hold H
          replace nz := nz.hold H
          replace HH := HH.trans H
          clear H
          have H := S.hset 2 1 (.slice pz lz Kz) rfl rfl (by intro q n e; cases e)
          replace S := S.set 2 1 (.slice pz lz Kz) rfl
          replace n1 := n1.hold H
          replace d1 := d1.hold H
          replace na := na.hold H
          replace nz := nz.hold H
          replace HH := HH.trans H
          clear H
          refine hKK.out _ _ ⟨S.c 0 0 rfl rfl, S.c 0 1 rfl rfl, S.c 0 2 rfl rfl⟩ (fun hS => ?_)
          generalize ((w38.setCell ⟨w2.heap.size, 0, none⟩ (.bool (negB z))).setCell ⟨w2.heap.size, 1, none⟩ (.slice pz lz Kz)) = w39 at S n1 d1 na nz HH hS ⊢
          clear hKK KK
          try simp only [Act.put, List.setIfInBounds_toArray, List.set_cons_zero, List.set_cons_succ]
          refine wpAnyH_ready (rs := [13]) (by kernel_rfl) (by simp) (AllReadyH.cons ((List.getElem?_toArray ..).trans rfl) (fun KK hKK => ?_) AllReadyH.nil)
          have c0 := S.c 3 0 rfl rfl
          have f0 := S.f 3 0 rfl
          have c1 := S.c 3 1 rfl rfl
          have f1 := S.f 3 1 rfl
          go_simp
          clear hS c0 f0 c1 f1
          have H := S.hset 3 0 (.bool (negB zr)) rfl rfl (by intro q n e; cases e)
          replace S := S.set 3 0 (.bool (negB zr)) rfl
          replace n1 := n1.hold H
          replace d1 := d1.hold H
          replace na := na.hold H
          replace nz := nz.hold H
          replace HH := HH.trans H
          clear H
          have H := S.hset 3 1 (.slice pr lr Kr) rfl rfl (by intro q n e; cases e)
          replace S := S.set 3 1 (.slice pr lr Kr) rfl
          replace n1 := n1.hold H
          replace d1 := d1.hold H
          replace na := na.hold H
          replace nz := nz.hold H
          replace HH := HH.trans H
          clear H
          refine hKK.out _ _ ⟨S.c 0 0 rfl rfl, S.c 0 1 rfl rfl, S.c 0 2 rfl rfl⟩ (fun hS => ?_)
          generalize ((w39.setCell ⟨w32.heap.size, 0, none⟩ (.bool (negB zr))).setCell ⟨w32.heap.size, 1, none⟩ (.slice pr lr Kr)) = w40 at S n1 d1 na nz HH hS ⊢
          clear hKK KK
          try simp only [Act.put, List.setIfInBounds_toArray, List.set_cons_zero, List.set_cons_succ]
          refine wpAnyH_ready (rs := [14]) (by kernel_rfl) (by simp) (AllReadyH.cons ((List.getElem?_toArray ..).trans rfl) (fun KK hKK => ?_) AllReadyH.nil)
          go_simp
          refine hKK.out _ _ hS (fun hS => ?_)
          clear hKK KK
          try simp only [Act.put, List.setIfInBounds_toArray, List.set_cons_zero, List.set_cons_succ]
          refine wpAnyH_done (by kernel_rfl) ?_ _
          go_wp2_with fail
          go_meet
          case rel => exact ⟨w2.heap.size, pz, lz, Kz, rfl, S.sub (.cons_cons _ (.cons_cons _ (.cons_cons _ (.cons _ (.slnil))))), nz, HH⟩
      ·
        go_simp
        clear hS
        have H := S.hnew 25 [.bool false, .slice none 0 0]
        replace S := S.alloc 25 [.bool false, .slice none 0 0] (w31.heap.size)
        try simp only [List.cons_append, List.nil_append] at S
        replace n1 := n1.hold H
        replace d1 := d1.hold H
        replace HH := HH.trans H
        clear H
        refine hKK.out _ _ ⟨S.c 0 0 rfl rfl, S.c 0 1 rfl rfl, S.c 0 2 rfl rfl⟩ (fun hS => ?_)
        generalize (w31.alloc (.cells #[.bool false, .slice none 0 0] 25)) = w41 at S n1 d1 HH hS ⊢
        clear hKK KK
        try simp only [Act.put, List.setIfInBounds_toArray, List.set_cons_zero, List.set_cons_succ]
        refine wpAnyH_ready (rs := [4]) (by kernel_rfl) (by simp) (AllReadyH.cons ((List.getElem?_toArray ..).trans rfl) (fun KK hKK => ?_) AllReadyH.nil)
        go_simp
        clear hS
        refine (S.call (wnat_any d1 HX.out.2 (x.den : Int) rfl)).mono ?_
        clear S
        rintro e w42 ⟨⟨_, rfl, pa, la, Ka, rfl, na⟩, S, H⟩
        replace n1 := n1.hold H
        replace d1 := d1.hold H
        replace HH := HH.trans H
        clear H
        go_wp2_with fail
        refine hKK.out _ _ ⟨S.c 0 0 rfl rfl, S.c 0 1 rfl rfl, S.c 0 2 rfl rfl⟩ (fun hS => ?_)
        clear hKK KK
        try simp only [Act.put, List.setIfInBounds_toArray, List.set_cons_zero, List.set_cons_succ]
        refine wpAnyH_ready (rs := [5]) (by kernel_rfl) (by simp) (AllReadyH.cons ((List.getElem?_toArray ..).trans rfl) (fun KK hKK => ?_) AllReadyH.nil)
        go_simp
        clear hS
        refine (S.call (wdiv_to ⟨_, _, _, by rw [hb1.out], n1⟩ ⟨_, _, _, rfl, na⟩ HX.out.1 HX.out.2 z zr HD.out.2.2 HD.out.1 HD.out.2.1)).mono ?_
        clear S
        rintro e w43 ⟨⟨_, _, rfl, ⟨pz, lz, Kz, rfl, nz⟩, ⟨pr, lr, Kr, rfl, nr⟩⟩, S, H⟩
        replace n1 := n1.hold H
        replace d1 := d1.hold H
        replace na := na.hold H
        replace HH := HH.trans H
        clear H
        go_wp2_with fail
        refine hKK.out _ _ ⟨S.c 0 0 rfl rfl, S.c 0 1 rfl rfl, S.c 0 2 rfl rfl⟩ (fun hS => ?_)
        clear hKK KK
        try simp only [Act.put, List.setIfInBounds_toArray, List.set_cons_zero, List.set_cons_succ]
        refine wpAnyH_take (i := 6) (v := ?_) ((List.getElem?_toArray ..).trans rfl) (by kernel_rfl) (by kernel_rfl) (by kernel_rfl) (fun _ _ _ h => h) (Or.inl ⟨rfl, fun W hW => ?_⟩) hS ?_
        rotate_left
        · obtain ⟨hW0, hW1, hW2⟩ := hW; go_simp; try first | rfl | (rw [if_neg (by first | omega | (simp only [ByteArray.size_append]; first | omega | (have h1 : (ByteArray.mk #[47]).size = 1 := rfl; omega)))]; try rfl) | kernel_rfl
        try simp only [Act.put, List.setIfInBounds_toArray, List.set_cons_zero, List.set_cons_succ]
        refine wpAnyH_take (i := 7) (v := ?_) ((List.getElem?_toArray ..).trans rfl) (by kernel_rfl) (by kernel_rfl) (by kernel_rfl) (fun _ _ _ h => h) (Or.inl ⟨rfl, fun W hW => ?_⟩) hS ?_
        rotate_left
        · obtain ⟨hW0, hW1, hW2⟩ := hW; go_simp; try first | rfl | (rw [if_neg (by first | omega | (simp only [ByteArray.size_append]; first | omega | (have h1 : (ByteArray.mk #[47]).size = 1 := rfl; omega)))]; try rfl) | kernel_rfl
        try simp only [Act.put, List.setIfInBounds_toArray, List.set_cons_zero, List.set_cons_succ]
        refine wpAnyH_take (i := 8) (v := ?_) ((List.getElem?_toArray ..).trans rfl) (by kernel_rfl) (by kernel_rfl) (by kernel_rfl) (fun _ _ _ h => h) (Or.inl ⟨rfl, fun W hW => ?_⟩) hS ?_
        rotate_left
        · obtain ⟨hW0, hW1, hW2⟩ := hW; go_simp; try first | rfl | (rw [if_neg (by first | omega | (simp only [ByteArray.size_append]; first | omega | (have h1 : (ByteArray.mk #[47]).size = 1 := rfl; omega)))]; try rfl) | kernel_rfl
        try simp only [Act.put, List.setIfInBounds_toArray, List.set_cons_zero, List.set_cons_succ]
        refine wpAnyH_take (i := 9) (v := ?_) ((List.getElem?_toArray ..).trans rfl) (by kernel_rfl) (by kernel_rfl) (by kernel_rfl) (fun _ _ _ h => h) (Or.inl ⟨rfl, fun W hW => ?_⟩) hS ?_
        rotate_left
        · obtain ⟨hW0, hW1, hW2⟩ := hW; go_simp; try first | rfl | (rw [if_neg (by first | omega | (simp only [ByteArray.size_append]; first | omega | (have h1 : (ByteArray.mk #[47]).size = 1 := rfl; omega)))]; try rfl) | kernel_rfl
        try simp only [Act.put, List.setIfInBounds_toArray, List.set_cons_zero, List.set_cons_succ]
        refine wpAnyH_ready (rs := [12]) (by kernel_rfl) (by simp) (AllReadyH.cons ((List.getElem?_toArray ..).trans rfl) (fun KK hKK => ?_) AllReadyH.nil)
        have c0 := S.c 2 0 rfl rfl
        have f0 := S.f 2 0 rfl
        have c1 := S.c 2 1 rfl rfl
        have f1 := S.f 2 1 rfl
        go_simp
        clear hS c0 f0 c1 f1
        have H := S.hset 2 0 (.bool (negB z)) rfl rfl (by intro q n e; cases e)
        replace S := S.set 2 0 (.bool (negB z)) rfl
        replace n1 := n1.hold H
        replace d1 := d1.hold H
        replace na := na.hold H
        replace nz := nz.hold H
        replace HH := HH.trans H
        clear H
        have H := S.hset 2 1 (.slice pz lz Kz) rfl rfl (by intro q n e; cases e)
        replace S := S.set 2 1 (.slice pz lz Kz) rfl
        replace n1 := n1.hold H
        replace d1 := d1.hold H
        replace na := na.hold H
        replace nz := nz.hold H
        replace HH := HH.trans H
        clear H
        refine hKK.out _ _ ⟨S.c 0 0 rfl rfl, S.c 0 1 rfl rfl, S.c 0 2 rfl rfl⟩ (fun hS => ?_)
        generalize ((w43.setCell ⟨w2.heap.size, 0, none⟩ (.bool (negB z))).setCell ⟨w2.heap.size, 1, none⟩ (.slice pz lz Kz)) = w44 at S n1 d1 na nz HH hS ⊢
        clear hKK KK
        try simp only [Act.put, List.setIfInBounds_toArray, List.set_cons_zero, List.set_cons_succ]
        refine wpAnyH_ready (rs := [13]) (by kernel_rfl) (by simp) (AllReadyH.cons ((List.getElem?_toArray ..).trans rfl) (fun KK hKK => ?_) AllReadyH.nil)
        have c0 := S.c 3 0 rfl rfl
        have f0 := S.f 3 0 rfl
        have c1 := S.c 3 1 rfl rfl
        have f1 := S.f 3 1 rfl
        go_simp
        clear hS c0 f0 c1 f1
        have H := S.hset 3 0 (.bool (negB zr)) rfl rfl (by intro q n e; cases e)
        replace S := S.set 3 0 (.bool (negB zr)) rfl
        replace n1 := n1.hold H
        replace d1 := d1.hold H
        replace na := na.hold H
        replace nz := nz.hold H
        replace HH := HH.trans H
        clear H
        have H := S.hset 3 1 (.slice pr lr Kr) rfl rfl (by intro q n e; cases e)
        replace S := S.set 3 1 (.slice pr lr Kr) rfl
        replace n1 := n1.hold H
        replace d1 := d1.hold H
        replace na := na.hold H
        replace nz := nz.hold H
        replace HH := HH.trans H
        clear H
        refine hKK.out _ _ ⟨S.c 0 0 rfl rfl, S.c 0 1 rfl rfl, S.c 0 2 rfl rfl⟩ (fun hS => ?_)
        generalize ((w44.setCell ⟨w31.heap.size, 0, none⟩ (.bool (negB zr))).setCell ⟨w31.heap.size, 1, none⟩ (.slice pr lr Kr)) = w45 at S n1 d1 na nz HH hS ⊢
        clear hKK KK
        try simp only [Act.put, List.setIfInBounds_toArray, List.set_cons_zero, List.set_cons_succ]
        refine wpAnyH_ready (rs := [14]) (by kernel_rfl) (by simp) (AllReadyH.cons ((List.getElem?_toArray ..).trans rfl) (fun KK hKK => ?_) AllReadyH.nil)
        go_simp
        refine hKK.out _ _ hS (fun hS => ?_)
        clear hKK KK
        try simp only [Act.put, List.setIfInBounds_toArray, List.set_cons_zero, List.set_cons_succ]
        refine wpAnyH_done (by kernel_rfl) ?_ _
        go_wp2_with fail
        go_meet
        case rel => exact ⟨w2.heap.size, pz, lz, Kz, rfl, S.sub (.cons_cons _ (.cons_cons _ (.cons_cons _ (.cons _ (.slnil))))), nz, HH⟩
    ·
      go_simp
      clear hS
      have H := S.hnew 25 [.bool false, .slice none 0 0]
      replace S := S.alloc 25 [.bool false, .slice none 0 0] (w2.heap.size)
      try simp only [List.cons_append, List.nil_append] at S
      replace n1 := n1.hold H
      replace d1 := d1.hold H
      replace HH := HH.trans H
      clear H
      refine hKK.out _ _ ⟨S.c 0 0 rfl rfl, S.c 0 1 rfl rfl, S.c 0 2 rfl rfl⟩ (fun hS => ?_)
      generalize (w2.alloc (.cells #[.bool false, .slice none 0 0] 25)) = w46 at S n1 d1 HH hS ⊢
      clear hKK KK
      try simp only [Act.put, List.setIfInBounds_toArray, List.set_cons_zero, List.set_cons_succ]
      refine wpAnyH_ready (rs := [4, 10]) (by kernel_rfl) (by simp) (AllReadyH.cons ((List.getElem?_toArray ..).trans rfl) (fun KK hKK => ?_) (AllReadyH.cons ((List.getElem?_toArray ..).trans rfl) (fun KK hKK => ?_) AllReadyH.nil))
      ·
        go_simp
        clear hS
        refine (S.call (wnat_any d1 HX.out.2 (x.den : Int) rfl)).mono ?_
        clear S
        rintro e w47 ⟨⟨_, rfl, pa, la, Ka, rfl, na⟩, S, H⟩
        replace n1 := n1.hold H
        replace d1 := d1.hold H
        replace HH := HH.trans H
        clear H
        go_wp2_with fail
        refine hKK.out _ _ ⟨S.c 0 0 rfl rfl, S.c 0 1 rfl rfl, S.c 0 2 rfl rfl⟩ (fun hS => ?_)
        clear hKK KK
        try simp only [Act.put, List.setIfInBounds_toArray, List.set_cons_zero, List.set_cons_succ]
        refine wpAnyH_ready (rs := [5, 10]) (by kernel_rfl) (by simp) (AllReadyH.cons ((List.getElem?_toArray ..).trans rfl) (fun KK hKK => ?_) (AllReadyH.cons ((List.getElem?_toArray ..).trans rfl) (fun KK hKK => ?_) AllReadyH.nil))
        ·
          go_simp
          clear hS
          refine (S.call (wdiv_to ⟨_, _, _, by rw [hb1.out], n1⟩ ⟨_, _, _, rfl, na⟩ HX.out.1 HX.out.2 z zr HD.out.2.2 HD.out.1 HD.out.2.1)).mono ?_
          clear S
          rintro e w48 ⟨⟨_, _, rfl, ⟨pz, lz, Kz, rfl, nz⟩, ⟨pr, lr, Kr, rfl, nr⟩⟩, S, H⟩
          replace n1 := n1.hold H
          replace d1 := d1.hold H
          replace na := na.hold H
          replace HH := HH.trans H
          clear H
          go_wp2_with fail
          refine hKK.out _ _ ⟨S.c 0 0 rfl rfl, S.c 0 1 rfl rfl, S.c 0 2 rfl rfl⟩ (fun hS => ?_)
          clear hKK KK
          try simp only [Act.put, List.setIfInBounds_toArray, List.set_cons_zero, List.set_cons_succ]
          refine wpAnyH_take (i := 6) (v := ?_) ((List.getElem?_toArray ..).trans rfl) (by kernel_rfl) (by kernel_rfl) (by kernel_rfl) (fun _ _ _ h => h) (Or.inl ⟨rfl, fun W hW => ?_⟩) hS ?_
          rotate_left
          · obtain ⟨hW0, hW1, hW2⟩ := hW; go_simp; try first | rfl | (rw [if_neg (by first | omega | (simp only [ByteArray.size_append]; first | omega | (have h1 : (ByteArray.mk #[47]).size = 1 := rfl; omega)))]; try rfl) | kernel_rfl
          try simp only [Act.put, List.setIfInBounds_toArray, List.set_cons_zero, List.set_cons_succ]
          refine wpAnyH_take (i := 7) (v := ?_) ((List.getElem?_toArray ..).trans rfl) (by kernel_rfl) (by kernel_rfl) (by kernel_rfl) (fun _ _ _ h => h) (Or.inl ⟨rfl, fun W hW => ?_⟩) hS ?_
          rotate_left
          · obtain ⟨hW0, hW1, hW2⟩ := hW; go_simp; try first | rfl | (rw [if_neg (by first | omega | (simp only [ByteArray.size_append]; first | omega | (have h1 : (ByteArray.mk #[47]).size = 1 := rfl; omega)))]; try rfl) | kernel_rfl
          try simp only [Act.put, List.setIfInBounds_toArray, List.set_cons_zero, List.set_cons_succ]
          refine wpAnyH_take (i := 8) (v := ?_) ((List.getElem?_toArray ..).trans rfl) (by kernel_rfl) (by kernel_rfl) (by kernel_rfl) (fun _ _ _ h => h) (Or.inl ⟨rfl, fun W hW => ?_⟩) hS ?_
          rotate_left
          · obtain ⟨hW0, hW1, hW2⟩ := hW; go_simp; try first | rfl | (rw [if_neg (by first | omega | (simp only [ByteArray.size_append]; first | omega | (have h1 : (ByteArray.mk #[47]).size = 1 := rfl; omega)))]; try rfl) | kernel_rfl
          try simp only [Act.put, List.setIfInBounds_toArray, List.set_cons_zero, List.set_cons_succ]
          refine wpAnyH_take (i := 9) (v := ?_) ((List.getElem?_toArray ..).trans rfl) (by kernel_rfl) (by kernel_rfl) (by kernel_rfl) (fun _ _ _ h => h) (Or.inl ⟨rfl, fun W hW => ?_⟩) hS ?_
          rotate_left
          · obtain ⟨hW0, hW1, hW2⟩ := hW; go_simp; try first | rfl | (rw [if_neg (by first | omega | (simp only [ByteArray.size_append]; first | omega | (have h1 : (ByteArray.mk #[47]).size = 1 := rfl; omega)))]; try rfl) | kernel_rfl
          try simp only [Act.put, List.setIfInBounds_toArray, List.set_cons_zero, List.set_cons_succ]
          refine wpAnyH_ready (rs := [10]) (by kernel_rfl) (by simp) (AllReadyH.cons ((List.getElem?_toArray ..).trans rfl) (fun KK hKK => ?_) AllReadyH.nil)
          go_simp
          clear hS
          have H := S.hnew 25 [.bool false, .slice none 0 0]
          replace S := S.alloc 25 [.bool false, .slice none 0 0] (w48.heap.size)
          try simp only [List.cons_append, List.nil_append] at S
          replace n1 := n1.hold H
          replace d1 := d1.hold H
          replace na := na.hold H
          replace nz := nz.hold H
          replace HH := HH.trans H
          clear H
          refine hKK.out _ _ ⟨S.c 0 0 rfl rfl, S.c 0 1 rfl rfl, S.c 0 2 rfl rfl⟩ (fun hS => ?_)
          generalize (w48.alloc (.cells #[.bool false, .slice none 0 0] 25)) = w49 at S n1 d1 na nz HH hS ⊢
          clear hKK KK
          try simp only [Act.put, List.setIfInBounds_toArray, List.set_cons_zero, List.set_cons_succ]
          refine wpAnyH_ready (rs := [12]) (by kernel_rfl) (by simp) (AllReadyH.cons ((List.getElem?_toArray ..).trans rfl) (fun KK hKK => ?_) AllReadyH.nil)
          have c0 := S.c 3 0 rfl rfl
          have f0 := S.f 3 0 rfl
          have c1 := S.c 3 1 rfl rfl
          have f1 := S.f 3 1 rfl
          go_simp
          clear hS c0 f0 c1 f1
          have H := S.hset 3 0 (.bool (negB z)) rfl rfl (by intro q n e; cases e)
          replace S := S.set 3 0 (.bool (negB z)) rfl
          replace n1 := n1.hold H
          replace d1 := d1.hold H
          replace na := na.hold H
          replace nz := nz.hold H
          replace HH := HH.trans H
          clear H
          have H := S.hset 3 1 (.slice pz lz Kz) rfl rfl (by intro q n e; cases e)
          replace S := S.set 3 1 (.slice pz lz Kz) rfl
          replace n1 := n1.hold H
          replace d1 := d1.hold H
          replace na := na.hold H
          replace nz := nz.hold H
          replace HH := HH.trans H
          clear H
          refine hKK.out _ _ ⟨S.c 0 0 rfl rfl, S.c 0 1 rfl rfl, S.c 0 2 rfl rfl⟩ (fun hS => ?_)
          generalize ((w49.setCell ⟨w48.heap.size, 0, none⟩ (.bool (negB z))).setCell ⟨w48.heap.size, 1, none⟩ (.slice pz lz Kz)) = w50 at S n1 d1 na nz HH hS ⊢
          clear hKK KK
          try simp only [Act.put, List.setIfInBounds_toArray, List.set_cons_zero, List.set_cons_succ]
          refine wpAnyH_ready (rs := [13]) (by kernel_rfl) (by simp) (AllReadyH.cons ((List.getElem?_toArray ..).trans rfl) (fun KK hKK => ?_) AllReadyH.nil)
          have c0 := S.c 2 0 rfl rfl
          have f0 := S.f 2 0 rfl
          have c1 := S.c 2 1 rfl rfl
          have f1 := S.f 2 1 rfl
          go_simp
          clear hS c0 f0 c1 f1
          have H := S.hset 2 0 (.bool (negB zr)) rfl rfl (by intro q n e; cases e)
          replace S := S.set 2 0 (.bool (negB zr)) rfl
          replace n1 := n1.hold H
          replace d1 := d1.hold H
          replace na := na.hold H
          replace nz := nz.hold H
          replace HH := HH.trans H
          clear H
          have H := S.hset 2 1 (.slice pr lr Kr) rfl rfl (by intro q n e; cases e)
          replace S := S.set 2 1 (.slice pr lr Kr) rfl
          replace n1 := n1.hold H
          replace d1 := d1.hold H
          replace na := na.hold H
          replace nz := nz.hold H
          replace HH := HH.trans H
          clear H
          refine hKK.out _ _ ⟨S.c 0 0 rfl rfl, S.c 0 1 rfl rfl, S.c 0 2 rfl rfl⟩ (fun hS => ?_)
          generalize ((w50.setCell ⟨w2.heap.size, 0, none⟩ (.bool (negB zr))).setCell ⟨w2.heap.size, 1, none⟩ (.slice pr lr Kr)) = w51 at S n1 d1 na nz HH hS ⊢
          clear hKK KK
          try simp only [Act.put, List.setIfInBounds_toArray, List.set_cons_zero, List.set_cons_succ]
          refine wpAnyH_ready (rs := [14]) (by kernel_rfl) (by simp) (AllReadyH.cons ((List.getElem?_toArray ..).trans rfl) (fun KK hKK => ?_) AllReadyH.nil)
          go_simp
          refine hKK.out _ _ hS (fun hS => ?_)
          clear hKK KK
          try simp only [Act.put, List.setIfInBounds_toArray, List.set_cons_zero, List.set_cons_succ]
          refine wpAnyH_done (by kernel_rfl) ?_ _
          go_wp2_with fail
          go_meet
          case rel => exact ⟨w48.heap.size, pz, lz, Kz, rfl, S.sub (.cons_cons _ (.cons_cons _ (.cons _ (.cons_cons _ (.slnil))))), nz, HH⟩
        ·
          go_simp
          clear hS
          have H := S.hnew 25 [.bool false, .slice none 0 0]
          replace S := S.alloc 25 [.bool false, .slice none 0 0] (w47.heap.size)
          try simp only [List.cons_append, List.nil_append] at S
          replace n1 := n1.hold H
          replace d1 := d1.hold H
          replace na := na.hold H
          replace HH := HH.trans H
          clear H
          refine hKK.out _ _ ⟨S.c 0 0 rfl rfl, S.c 0 1 rfl rfl, S.c 0 2 rfl rfl⟩ (fun hS => ?_)
          generalize (w47.alloc (.cells #[.bool false, .slice none 0 0] 25)) = w52 at S n1 d1 na HH hS ⊢
          clear hKK KK
          try simp only [Act.put, List.setIfInBounds_toArray, List.set_cons_zero, List.set_cons_succ]
          refine wpAnyH_ready (rs := [5]) (by kernel_rfl) (by simp) (AllReadyH.cons ((List.getElem?_toArray ..).trans rfl) (fun KK hKK => ?_) AllReadyH.nil)
          go_simp
          clear hS
          refine (S.call (wdiv_to ⟨_, _, _, by rw [hb1.out], n1⟩ ⟨_, _, _, rfl, na⟩ HX.out.1 HX.out.2 z zr HD.out.2.2 HD.out.1 HD.out.2.1)).mono ?_
          clear S
          rintro e w53 ⟨⟨_, _, rfl, ⟨pz, lz, Kz, rfl, nz⟩, ⟨pr, lr, Kr, rfl, nr⟩⟩, S, H⟩
          replace n1 := n1.hold H
          replace d1 := d1.hold H
          replace na := na.hold H
          replace HH := HH.trans H
          clear H
          go_wp2_with fail
          refine hKK.out _ _ ⟨S.c 0 0 rfl rfl, S.c 0 1 rfl rfl, S.c 0 2 rfl rfl⟩ (fun hS => ?_)
          clear hKK KK
          try simp only [Act.put, List.setIfInBounds_toArray, List.set_cons_zero, List.set_cons_succ]
          refine wpAnyH_take (i := 6) (v := ?_) ((List.getElem?_toArray ..).trans rfl) (by kernel_rfl) (by kernel_rfl) (by kernel_rfl) (fun _ _ _ h => h) (Or.inl ⟨rfl, fun W hW => ?_⟩) hS ?_
          rotate_left
          · obtain ⟨hW0, hW1, hW2⟩ := hW; go_simp; try first | rfl | (rw [if_neg (by first | omega | (simp only [ByteArray.size_append]; first | omega | (have h1 : (ByteArray.mk #[47]).size = 1 := rfl; omega)))]; try rfl) | kernel_rfl
          try simp only [Act.put, List.setIfInBounds_toArray, List.set_cons_zero, List.set_cons_succ]
          refine wpAnyH_take (i := 7) (v := ?_) ((List.getElem?_toArray ..).trans rfl) (by kernel_rfl) (by kernel_rfl) (by kernel_rfl) (fun _ _ _ h => h) (Or.inl ⟨rfl, fun W hW => ?_⟩) hS ?_
          rotate_left
          · obtain ⟨hW0, hW1, hW2⟩ := hW; go_simp; try first | rfl | (rw [if_neg (by first | omega | (simp only [ByteArray.size_append]; first | omega | (have h1 : (ByteArray.mk #[47]).size = 1 := rfl; omega)))]; try rfl) | kernel_rfl
          try simp only [Act.put, List.setIfInBounds_toArray, List.set_cons_zero, List.set_cons_succ]
          refine wpAnyH_take (i := 8) (v := ?_) ((List.getElem?_toArray ..).trans rfl) (by kernel_rfl) (by kernel_rfl) (by kernel_rfl) (fun _ _ _ h => h) (Or.inl ⟨rfl, fun W hW => ?_⟩) hS ?_
          rotate_left
          · obtain ⟨hW0, hW1, hW2⟩ := hW; go_simp; try first | rfl | (rw [if_neg (by first | omega | (simp only [ByteArray.size_append]; first | omega | (have h1 : (ByteArray.mk #[47]).size = 1 := rfl; omega)))]; try rfl) | kernel_rfl
          try simp only [Act.put, List.setIfInBounds_toArray, List.set_cons_zero, List.set_cons_succ]
          refine wpAnyH_take (i := 9) (v := ?_) ((List.getElem?_toArray ..).trans rfl) (by kernel_rfl) (by kernel_rfl) (by kernel_rfl) (fun _ _ _ h => h) (Or.inl ⟨rfl, fun W hW => ?_⟩) hS ?_
          rotate_left
          · obtain ⟨hW0, hW1, hW2⟩ := hW; go_simp; try first | rfl | (rw [if_neg (by first | omega | (simp only [ByteArray.size_append]; first | omega | (have h1 : (ByteArray.mk #[47]).size = 1 := rfl; omega)))]; try rfl) | kernel_rfl
          try simp only [Act.put, List.setIfInBounds_toArray, List.set_cons_zero, List.set_cons_succ]
          refine wpAnyH_ready (rs := [12]) (by kernel_rfl) (by simp) (AllReadyH.cons ((List.getElem?_toArray ..).trans rfl) (fun KK hKK => ?_) AllReadyH.nil)
          have c0 := S.c 3 0 rfl rfl
          have f0 := S.f 3 0 rfl
          have c1 := S.c 3 1 rfl rfl
          have f1 := S.f 3 1 rfl
          go_simp
          clear hS c0 f0 c1 f1
          have H := S.hset 3 0 (.bool (negB z)) rfl rfl (by intro q n e; cases e)
          replace S := S.set 3 0 (.bool (negB z)) rfl
          replace n1 := n1.hold H
          replace d1 := d1.hold H
          replace na := na.hold H
          replace nz := nz.hold H
          replace HH := HH.trans H
          clear H
          have H := S.hset 3 1 (.slice pz lz Kz) rfl rfl (by intro q n e; cases e)
          replace S := S.set 3 1 (.slice pz lz Kz) rfl
          replace n1 := n1.hold H
          replace d1 := d1.hold H
          replace na := na.hold H
          replace nz := nz.hold H
          replace HH := HH.trans H
          clear H
          refine hKK.out _ _ ⟨S.c 0 0 rfl rfl, S.c 0 1 rfl rfl, S.c 0 2 rfl rfl⟩ (fun hS => ?_)
          generalize ((w53.setCell ⟨w47.heap.size, 0, none⟩ (.bool (negB z))).setCell ⟨w47.heap.size, 1, none⟩ (.slice pz lz Kz)) = w54 at S n1 d1 na nz HH hS ⊢
          clear hKK KK
          try simp only [Act.put, List.setIfInBounds_toArray, List.set_cons_zero, List.set_cons_succ]
          refine wpAnyH_ready (rs := [13]) (by kernel_rfl) (by simp) (AllReadyH.cons ((List.getElem?_toArray ..).trans rfl) (fun KK hKK => ?_) AllReadyH.nil)
          have c0 := S.c 2 0 rfl rfl
          have f0 := S.f 2 0 rfl
          have c1 := S.c 2 1 rfl rfl
          have f1 := S.f 2 1 rfl
          go_simp
          clear hS c0 f0 c1 f1
          have H := S.hset 2 0 (.bool (negB zr)) rfl rfl (by intro q n e; cases e)
          replace S := S.set 2 0 (.bool (negB zr)) rfl
          replace n1 := n1.hold H
          replace d1 := d1.hold H
          replace na := na.hold H
          replace nz := nz.hold H
          replace HH := HH.trans H
          clear H
          have H := S.hset 2 1 (.slice pr lr Kr) rfl rfl (by intro q n e; cases e)
          replace S := S.set 2 1 (.slice pr lr Kr) rfl
          replace n1 := n1.hold H
          replace d1 := d1.hold H
          replace na := na.hold H
          replace nz := nz.hold H
          replace HH := HH.trans H
          clear H
          refine hKK.out _ _ ⟨S.c 0 0 rfl rfl, S.c 0 1 rfl rfl, S.c 0 2 rfl rfl⟩ (fun hS => ?_)
          generalize ((w54.setCell ⟨w2.heap.size, 0, none⟩ (.bool (negB zr))).setCell ⟨w2.heap.size, 1, none⟩ (.slice pr lr Kr)) = w55 at S n1 d1 na nz HH hS ⊢
          clear hKK KK
          try simp only [Act.put, List.setIfInBounds_toArray, List.set_cons_zero, List.set_cons_succ]
          refine wpAnyH_ready (rs := [14]) (by kernel_rfl) (by simp) (AllReadyH.cons ((List.getElem?_toArray ..).trans rfl) (fun KK hKK => ?_) AllReadyH.nil)
          go_simp
          refine hKK.out _ _ hS (fun hS => ?_)
          clear hKK KK
          try simp only [Act.put, List.setIfInBounds_toArray, List.set_cons_zero, List.set_cons_succ]
          refine wpAnyH_done (by kernel_rfl) ?_ _
          go_wp2_with fail
          go_meet
          case rel => exact ⟨w47.heap.size, pz, lz, Kz, rfl, S.sub (.cons_cons _ (.cons_cons _ (.cons _ (.cons_cons _ (.slnil))))), nz, HH⟩
      ·
        go_simp
        clear hS
        have H := S.hnew 25 [.bool false, .slice none 0 0]
        replace S := S.alloc 25 [.bool false, .slice none 0 0] (w46.heap.size)
        try simp only [List.cons_append, List.nil_append] at S
        replace n1 := n1.hold H
        replace d1 := d1.hold H
        replace HH := HH.trans H
        clear H
        refine hKK.out _ _ ⟨S.c 0 0 rfl rfl, S.c 0 1 rfl rfl, S.c 0 2 rfl rfl⟩ (fun hS => ?_)
        generalize (w46.alloc (.cells #[.bool false, .slice none 0 0] 25)) = w56 at S n1 d1 HH hS ⊢
        clear hKK KK
        try simp only [Act.put, List.setIfInBounds_toArray, List.set_cons_zero, List.set_cons_succ]
        refine wpAnyH_ready (rs := [4]) (by kernel_rfl) (by simp) (AllReadyH.cons ((List.getElem?_toArray ..).trans rfl) (fun KK hKK => ?_) AllReadyH.nil)
        go_simp
        clear hS
        refine (S.call (wnat_any d1 HX.out.2 (x.den : Int) rfl)).mono ?_
        clear S
        rintro e w57 ⟨⟨_, rfl, pa, la, Ka, rfl, na⟩, S, H⟩
        replace n1 := n1.hold H
        replace d1 := d1.hold H
        replace HH := HH.trans H
        clear H
        go_wp2_with fail
        refine hKK.out _ _ ⟨S.c 0 0 rfl rfl, S.c 0 1 rfl rfl, S.c 0 2 rfl rfl⟩ (fun hS => ?_)
        clear hKK KK
        try simp only [Act.put, List.setIfInBounds_toArray, List.set_cons_zero, List.set_cons_succ]
        refine wpAnyH_ready (rs := [5]) (by kernel_rfl) (by simp) (AllReadyH.cons ((List.getElem?_toArray ..).trans rfl) (fun KK hKK => ?_) AllReadyH.nil)
        go_simp
        clear hS
        refine (S.call (wdiv_to ⟨_, _, _, by rw [hb1.out], n1⟩ ⟨_, _, _, rfl, na⟩ HX.out.1 HX.out.2 z zr HD.out.2.2 HD.out.1 HD.out.2.1)).mono ?_
        clear S
        rintro e w58 ⟨⟨_, _, rfl, ⟨pz, lz, Kz, rfl, nz⟩, ⟨pr, lr, Kr, rfl, nr⟩⟩, S, H⟩
        replace n1 := n1.hold H
        replace d1 := d1.hold H
        replace na := na.hold H
        replace HH := HH.trans H
        clear H
        go_wp2_with fail
        refine hKK.out _ _ ⟨S.c 0 0 rfl rfl, S.c 0 1 rfl rfl, S.c 0 2 rfl rfl⟩ (fun hS => ?_)
        clear hKK KK
        try simp only [Act.put, List.setIfInBounds_toArray, List.set_cons_zero, List.set_cons_succ]
        refine wpAnyH_take (i := 6) (v := ?_) ((List.getElem?_toArray ..).trans rfl) (by kernel_rfl) (by kernel_rfl) (by kernel_rfl) (fun _ _ _ h => h) (Or.inl ⟨rfl, fun W hW => ?_⟩) hS ?_
        rotate_left
        · obtain ⟨hW0, hW1, hW2⟩ := hW; go_simp; try first | rfl | (rw [if_neg (by first | omega | (simp only [ByteArray.size_append]; first | omega | (have h1 : (ByteArray.mk #[47]).size = 1 := rfl; omega)))]; try rfl) | kernel_rfl
        try simp only [Act.put, List.setIfInBounds_toArray, List.set_cons_zero, List.set_cons_succ]
        refine wpAnyH_take (i := 7) (v := ?_) ((List.getElem?_toArray ..).trans rfl) (by kernel_rfl) (by kernel_rfl) (by kernel_rfl) (fun _ _ _ h => h) (Or.inl ⟨rfl, fun W hW => ?_⟩) hS ?_
        rotate_left
        · obtain ⟨hW0, hW1, hW2⟩ := hW; go_simp; try first | rfl | (rw [if_neg (by first | omega | (simp only [ByteArray.size_append]; first | omega | (have h1 : (ByteArray.mk #[47]).size = 1 := rfl; omega)))]; try rfl) | kernel_rfl
        try simp only [Act.put, List.setIfInBounds_toArray, List.set_cons_zero, List.set_cons_succ]
        refine wpAnyH_take (i := 8) (v := ?_) ((List.getElem?_toArray ..).trans rfl) (by kernel_rfl) (by kernel_rfl) (by kernel_rfl) (fun _ _ _ h => h) (Or.inl ⟨rfl, fun W hW => ?_⟩) hS ?_
        rotate_left
        · obtain ⟨hW0, hW1, hW2⟩ := hW; go_simp; try first | rfl | (rw [if_neg (by first | omega | (simp only [ByteArray.size_append]; first | omega | (have h1 : (ByteArray.mk #[47]).size = 1 := rfl; omega)))]; try rfl) | kernel_rfl
        try simp only [Act.put, List.setIfInBounds_toArray, List.set_cons_zero, List.set_cons_succ]
        refine wpAnyH_take (i := 9) (v := ?_) ((List.getElem?_toArray ..).trans rfl) (by kernel_rfl) (by kernel_rfl) (by kernel_rfl) (fun _ _ _ h => h) (Or.inl ⟨rfl, fun W hW => ?_⟩) hS ?_
        rotate_left
        · obtain ⟨hW0, hW1, hW2⟩ := hW; go_simp; try first | rfl | (rw [if_neg (by first | omega | (simp only [ByteArray.size_append]; first | omega | (have h1 : (ByteArray.mk #[47]).size = 1 := rfl; omega)))]; try rfl) | kernel_rfl
        try simp only [Act.put, List.setIfInBounds_toArray, List.set_cons_zero, List.set_cons_succ]
        refine wpAnyH_ready (rs := [12]) (by kernel_rfl) (by simp) (AllReadyH.cons ((List.getElem?_toArray ..).trans rfl) (fun KK hKK => ?_) AllReadyH.nil)
        have c0 := S.c 3 0 rfl rfl
        have f0 := S.f 3 0 rfl
        have c1 := S.c 3 1 rfl rfl
        have f1 := S.f 3 1 rfl
        go_simp
        clear hS c0 f0 c1 f1
        have H := S.hset 3 0 (.bool (negB z)) rfl rfl (by intro q n e; cases e)
        replace S := S.set 3 0 (.bool (negB z)) rfl
        replace n1 := n1.hold H
        replace d1 := d1.hold H
        replace na := na.hold H
        replace nz := nz.hold H
        replace HH := HH.trans H
        clear H
        have H := S.hset 3 1 (.slice pz lz Kz) rfl rfl (by intro q n e; cases e)
        replace S := S.set 3 1 (.slice pz lz Kz) rfl
        replace n1 := n1.hold H
        replace d1 := d1.hold H
        replace na := na.hold H
        replace nz := nz.hold H
        replace HH := HH.trans H
        clear H
        refine hKK.out _ _ ⟨S.c 0 0 rfl rfl, S.c 0 1 rfl rfl, S.c 0 2 rfl rfl⟩ (fun hS => ?_)
        generalize ((w58.setCell ⟨w46.heap.size, 0, none⟩ (.bool (negB z))).setCell ⟨w46.heap.size, 1, none⟩ (.slice pz lz Kz)) = w59 at S n1 d1 na nz HH hS ⊢
        clear hKK KK
        try simp only [Act.put, List.setIfInBounds_toArray, List.set_cons_zero, List.set_cons_succ]
        refine wpAnyH_ready (rs := [13]) (by kernel_rfl) (by simp) (AllReadyH.cons ((List.getElem?_toArray ..).trans rfl) (fun KK hKK => ?_) AllReadyH.nil)
        have c0 := S.c 2 0 rfl rfl
        have f0 := S.f 2 0 rfl
        have c1 := S.c 2 1 rfl rfl
        have f1 := S.f 2 1 rfl
        go_simp
        clear hS c0 f0 c1 f1
        have H := S.hset 2 0 (.bool (negB zr)) rfl rfl (by intro q n e; cases e)
        replace S := S.set 2 0 (.bool (negB zr)) rfl
        replace n1 := n1.hold H
        replace d1 := d1.hold H
        replace na := na.hold H
        replace nz := nz.hold H
        replace HH := HH.trans H
        clear H
        have H := S.hset 2 1 (.slice pr lr Kr) rfl rfl (by intro q n e; cases e)
        replace S := S.set 2 1 (.slice pr lr Kr) rfl
        replace n1 := n1.hold H
        replace d1 := d1.hold H
        replace na := na.hold H
        replace nz := nz.hold H
        replace HH := HH.trans H
        clear H
        refine hKK.out _ _ ⟨S.c 0 0 rfl rfl, S.c 0 1 rfl rfl, S.c 0 2 rfl rfl⟩ (fun hS => ?_)
        generalize ((w59.setCell ⟨w2.heap.size, 0, none⟩ (.bool (negB zr))).setCell ⟨w2.heap.size, 1, none⟩ (.slice pr lr Kr)) = w60 at S n1 d1 na nz HH hS ⊢
        clear hKK KK
        try simp only [Act.put, List.setIfInBounds_toArray, List.set_cons_zero, List.set_cons_succ]
        refine wpAnyH_ready (rs := [14]) (by kernel_rfl) (by simp) (AllReadyH.cons ((List.getElem?_toArray ..).trans rfl) (fun KK hKK => ?_) AllReadyH.nil)
        go_simp
        refine hKK.out _ _ hS (fun hS => ?_)
        clear hKK KK
        try simp only [Act.put, List.setIfInBounds_toArray, List.set_cons_zero, List.set_cons_succ]
        refine wpAnyH_done (by kernel_rfl) ?_ _
        go_wp2_with fail
        go_meet
        case rel => exact ⟨w46.heap.size, pz, lz, Kz, rfl, S.sub (.cons_cons _ (.cons_cons _ (.cons _ (.cons_cons _ (.slnil))))), nz, HH⟩
  case rest =>
    obtain ⟨g3, pz, lz, Kz, rfl, S, nz, HH⟩ := hcut
    obtain ⟨w61, rfl⟩ : ∃ W : World, W = wc := ⟨_, rfl⟩
    replace n1 := n1.hold HH
    replace d1 := d1.hold HH
    clear HH
    have c0_0 := S.c 0 0 rfl rfl
    have c0_1 := S.c 0 1 rfl rfl
    have c0_2 := S.c 0 2 rfl rfl
    have c1_0 := S.c 1 0 rfl rfl
    have c1_1 := S.c 1 1 rfl rfl
    have c2_0 := S.c 2 0 rfl rfl
    have c2_1 := S.c 2 1 rfl rfl
    have f1_0 := S.f 1 0 rfl
    have H := S.hset 1 0 (.bool (negB z)) rfl rfl (by intro q n e; cases e)
    replace S := S.set 1 0 (.bool (negB z)) rfl
    replace n1 := n1.hold H
    replace d1 := d1.hold H
    replace nz := nz.hold H
    clear H
    have f1_1 := S.f 1 1 rfl
    have H := S.hset 1 1 (.slice pz lz Kz) rfl rfl (by intro q n e; cases e)
    replace S := S.set 1 1 (.slice pz lz Kz) rfl
    replace n1 := n1.hold H
    replace d1 := d1.hold H
    replace nz := nz.hold H
    clear H
    go_wp2_with fail
    have d1_0 := S.c 1 0 rfl rfl
    have d1_1 := S.c 1 1 rfl rfl
    exact bodyPost_ret (v := .agg #[.bool (negB z), .slice pz lz Kz]) (by simp [results, Tryz.f28, go_sem, d1_0, d1_1]) rfl (⟨⟨_, rfl, pz, lz, Kz, rfl, nz⟩, S.below⟩)

set_option maxRecDepth 100000 in
set_option maxHeartbeats 4000000 in
theorem rceil_any {va : Value} {x : Rat} {w : World} (ha : IsRat w va x) (hx : x.num.natAbs < maxN ∧ x.den < maxN) (z : Int) (hz : x.ceil = z) :
    Calls Tryz.prog 29 #[va] w fun e w' => (∃ u, e = .returned u ∧ IsInt w' u z) ∧ Below w.heap.size w w' := by
  obtain ⟨b1, p1, l1, K1, q1, j1, J1, rfl, hb1, n1, d1⟩ := ha
  obtain ⟨y, hy⟩ : ∃ y, (-x).floor = y := ⟨_, rfl⟩
  have hyz : -y = z := by rw [← hz, ← hy, Rat.ceil_eq_neg_floor_neg]
  have hyb : y.natAbs < maxN := by
    rw [← hy, Rat.floor_def, Rat.neg_num]
    exact Nat.lt_of_le_of_lt (Int.natAbs_ediv_le_natAbs _ _) (by rw [Int.natAbs_neg]; exact hx.1)
  have HX := Lib.hid hx
  have HD := Lib.hid (And.intro hy (And.intro hyz hyb))
  clear hx hz hy hyz hyb
  have S := ((St.start w).alloc 27 [.bool b1, .slice p1 l1 K1, .slice q1 j1 J1] (w.heap.size)).alloc 25 [.bool false, .slice none 0 0] (w.heap.size + 1)
  try simp only [List.cons_append, List.nil_append] at S
  replace n1 := n1.hold S.hold
  replace d1 := d1.hold S.hold
  have c0_0 := S.c 0 0 rfl rfl
  have c0_1 := S.c 0 1 rfl rfl
  have c0_2 := S.c 0 2 rfl rfl
  have c1_0 := S.c 1 0 rfl rfl
  have c1_1 := S.c 1 1 rfl rfl
  go_enter Tryz.func29, Tryz.ntmps29
  go_wp2_with fail
  clear c0_0 c0_1 c0_2 c1_0 c1_1
  refine (S.call (rneg_any ⟨b1, p1, l1, K1, q1, j1, J1, rfl, hb1, n1, d1⟩ HX.out (-x) rfl)).mono ?_
  clear S
  rintro e w1 ⟨⟨_, rfl, ba, pa, la, Ka, qa, ja, Ja, rfl, ha, na, da⟩, S, H⟩
  replace n1 := n1.hold H
  replace d1 := d1.hold H
  clear H
  have c0_0 := S.c 0 0 rfl rfl
  have c0_1 := S.c 0 1 rfl rfl
  have c0_2 := S.c 0 2 rfl rfl
  have c1_0 := S.c 1 0 rfl rfl
  have c1_1 := S.c 1 1 rfl rfl
  go_wp2_with fail
  clear c0_0 c0_1 c0_2 c1_0 c1_1
  refine (S.call (rfloor_any ⟨ba, pa, la, Ka, qa, ja, Ja, rfl, ha, na, da⟩ ⟨by rw [Rat.neg_num, Int.natAbs_neg]; exact HX.out.1, HX.out.2⟩ y HD.out.1)).mono ?_
  clear S
  rintro e w2 ⟨⟨_, rfl, pf, lf, Kf, rfl, nf⟩, S, H⟩
  replace n1 := n1.hold H
  replace d1 := d1.hold H
  replace na := na.hold H
  replace da := da.hold H
  clear H
  have c0_0 := S.c 0 0 rfl rfl
  have c0_1 := S.c 0 1 rfl rfl
  have c0_2 := S.c 0 2 rfl rfl
  have c1_0 := S.c 1 0 rfl rfl
  have c1_1 := S.c 1 1 rfl rfl
  go_wp2_with fail
  clear c0_0 c0_1 c0_2 c1_0 c1_1
  refine (S.call (wneg_to ⟨_, _, _, rfl, nf⟩ HD.out.2.2 z HD.out.2.1)).mono ?_
  clear S
  rintro e w3 ⟨⟨_, rfl, pz, lz, Kz, rfl, nz⟩, S, H⟩
  replace n1 := n1.hold H
  replace d1 := d1.hold H
  replace na := na.hold H
  replace da := da.hold H
  replace nf := nf.hold H
  clear H
  have c0_0 := S.c 0 0 rfl rfl
  have c0_1 := S.c 0 1 rfl rfl
  have c0_2 := S.c 0 2 rfl rfl
  have c1_0 := S.c 1 0 rfl rfl
  have c1_1 := S.c 1 1 rfl rfl
  have f1_0 := S.f 1 0 rfl
  have H := S.hset 1 0 (.bool (negB z)) rfl rfl (by intro q n e; cases e)
  replace S := S.set 1 0 (.bool (negB z)) rfl
  replace n1 := n1.hold H
  replace d1 := d1.hold H
  replace na := na.hold H
  replace da := da.hold H
  replace nf := nf.hold H
  replace nz := nz.hold H
  clear H
  have f1_1 := S.f 1 1 rfl
  have H := S.hset 1 1 (.slice pz lz Kz) rfl rfl (by intro q n e; cases e)
  replace S := S.set 1 1 (.slice pz lz Kz) rfl
  replace n1 := n1.hold H
  replace d1 := d1.hold H
  replace na := na.hold H
  replace da := da.hold H
  replace nf := nf.hold H
  replace nz := nz.hold H
  clear H
  go_wp2_with fail
  have d1_0 := S.c 1 0 rfl rfl
  have d1_1 := S.c 1 1 rfl rfl
  exact bodyPost_ret (v := .agg #[.bool (negB z), .slice pz lz Kz]) (by simp [results, Tryz.f29, go_sem, d1_0, d1_1]) rfl (⟨⟨_, rfl, pz, lz, Kz, rfl, nz⟩, S.below⟩)

end Go.Proofs.YtggnjlbnfgjgdaaGreat

namespace Go.Proofs.YtggnjlbnfgjgdaaGreat
open Go.RowKit

set_option maxRecDepth 100000 in
set_option maxHeartbeats 4000000 in
theorem rof_any (n d : Int) (w : World) (hn0 : -9223372036854775808 ≤ n) (hn1 : n ≤ 9223372036854775807) (hd0 : -9223372036854775808 ≤ d) (hd1 : d ≤ 9223372036854775807) (h0 : d ≠ 0) (q : Rat) (hq : q = Rat.divInt n d) :
    Calls Tryz.prog 17 #[.int .i64 n, .int .i64 d] w fun e w' => (∃ u, e = .returned u ∧ IsRat w' u q) ∧ Below w.heap.size w w' := by
  have HD := Lib.hid (And.intro hn0 (And.intro hn1 (And.intro hd0 (And.intro hd1 (And.intro h0 hq)))))
  have HB := Lib.hid (And.intro (show n.natAbs < maxN from lt_maxN (by omega)) (show d.natAbs < maxN from lt_maxN (by omega)))
  clear hn0 hn1 hd0 hd1 h0 hq
  have S := (St.start w).alloc 27 [.bool false, .slice none 0 0, .slice none 0 0] (w.heap.size)
  try simp only [List.cons_append, List.nil_append] at S
  have c0_0 := S.c 0 0 rfl rfl
  have c0_1 := S.c 0 1 rfl rfl
  have c0_2 := S.c 0 2 rfl rfl
  go_enter Tryz.func17, Tryz.ntmps17
  go_wp2_with fail
  clear c0_0 c0_1 c0_2
  refine (S.call (wof_any n _ HD.out.1 HD.out.2.1)).mono ?_
  clear S
  rintro e w1 ⟨⟨_, rfl, pn, ln, Kn, rfl, nn⟩, S, H⟩
  clear H
  have c0_0 := S.c 0 0 rfl rfl
  have c0_1 := S.c 0 1 rfl rfl
  have c0_2 := S.c 0 2 rfl rfl
  go_wp2_with fail
  clear c0_0 c0_1 c0_2
  refine (S.call (wof_any d _ HD.out.2.2.1 HD.out.2.2.2.1)).mono ?_
  clear S
  rintro e w2 ⟨⟨_, rfl, pd, ld, Kd, rfl, nd⟩, S, H⟩
  replace nn := nn.hold H
  clear H
  have c0_0 := S.c 0 0 rfl rfl
  have c0_1 := S.c 0 1 rfl rfl
  have c0_2 := S.c 0 2 rfl rfl
  go_wp2_with fail
  clear c0_0 c0_1 c0_2
  refine (S.call (rmake_any ⟨_, _, _, rfl, nn⟩ ⟨_, _, _, rfl, nd⟩ HB.out.1 HB.out.2 HD.out.2.2.2.2.1 q HD.out.2.2.2.2.2)).mono ?_
  clear S
  rintro e w3 ⟨⟨_, rfl, b, p, l, K, q', j, J, rfl, hb, n1, d1⟩, S, H⟩
  replace nn := nn.hold H
  replace nd := nd.hold H
  clear H
  have c0_0 := S.c 0 0 rfl rfl
  have c0_1 := S.c 0 1 rfl rfl
  have c0_2 := S.c 0 2 rfl rfl
  have H := S.hnew 27 [.bool b, .slice p l K, .slice q' j J]
  replace S := S.alloc 27 [.bool b, .slice p l K, .slice q' j J] (w3.heap.size)
  try simp only [List.cons_append, List.nil_append] at S
  replace nn := nn.hold H
  replace nd := nd.hold H
  replace n1 := n1.hold H
  replace d1 := d1.hold H
  clear H
  clear c0_0 c0_1 c0_2
  have c0_0 := S.c 0 0 rfl rfl
  have c0_1 := S.c 0 1 rfl rfl
  have c0_2 := S.c 0 2 rfl rfl
  have c1_0 := S.c 1 0 rfl rfl
  have c1_1 := S.c 1 1 rfl rfl
  have c1_2 := S.c 1 2 rfl rfl
  have f0_0 := S.f 0 0 rfl
  have H := S.hset 0 0 (.bool b) rfl rfl (by intro q n e; cases e)
  replace S := S.set 0 0 (.bool b) rfl
  replace nn := nn.hold H
  replace nd := nd.hold H
  replace n1 := n1.hold H
  replace d1 := d1.hold H
  clear H
  have f0_1 := S.f 0 1 rfl
  have H := S.hset 0 1 (.slice p l K) rfl rfl (by intro q n e; cases e)
  replace S := S.set 0 1 (.slice p l K) rfl
  replace nn := nn.hold H
  replace nd := nd.hold H
  replace n1 := n1.hold H
  replace d1 := d1.hold H
  clear H
  have f0_2 := S.f 0 2 rfl
  have H := S.hset 0 2 (.slice q' j J) rfl rfl (by intro q n e; cases e)
  replace S := S.set 0 2 (.slice q' j J) rfl
  replace nn := nn.hold H
  replace nd := nd.hold H
  replace n1 := n1.hold H
  replace d1 := d1.hold H
  clear H
  go_wp2_with fail
  have d0_0 := S.c 0 0 rfl rfl
  have d0_1 := S.c 0 1 rfl rfl
  have d0_2 := S.c 0 2 rfl rfl
  exact bodyPost_ret (v := .agg #[.bool b, .slice p l K, .slice q' j J]) (by simp [results, Tryz.f17, go_sem, d0_0, d0_1, d0_2]) rfl (⟨⟨_, rfl, b, p, l, K, q', j, J, rfl, hb, n1, d1⟩, S.below⟩)

end Go.Proofs.YtggnjlbnfgjgdaaGreat

namespace Go.Proofs.YtggnjlbnfgjgdaaGreat
open Go.RowKit

set_option maxRecDepth 100000 in
set_option maxHeartbeats 4000000 in
theorem rcheck_any {va : Value} {x : Rat} {w : World} (ha : IsRat w va x) (hx : x.num.natAbs < maxN ∧ x.den < maxN) :
    Calls Tryz.prog 31 #[va] w fun e w' => e = .returned (.int .i64 0) ∧ Below w.heap.size w w' := by
  obtain ⟨b1, p1, l1, K1, q1, j1, J1, rfl, hb1, n1, d1⟩ := ha
  obtain ⟨t, ht⟩ : ∃ t, nbits x.den = t := ⟨_, rfl⟩
  have ht0 : ¬ t = 0 := by rw [← ht]; have := (nbits_spec x.den_nz).1; omega
  have htI : ((t : Int) == 0) = false := by simpa using ht0
  have htJ : ¬ (t : Int) = 0 := by omega
  have HX := Lib.hid hx
  have HD := Lib.hid (And.intro ht (show Nat.gcd x.num.natAbs x.den = 1 from x.reduced))
  clear hx ht
  have S := (St.start w).alloc 27 [.bool b1, .slice p1 l1 K1, .slice q1 j1 J1] (w.heap.size)
  try simp only [List.cons_append, List.nil_append] at S
  replace n1 := n1.hold S.hold
  replace d1 := d1.hold S.hold
  have c0_0 := S.c 0 0 rfl rfl
  have c0_1 := S.c 0 1 rfl rfl
  have c0_2 := S.c 0 2 rfl rfl
  go_enter Tryz.func31, Tryz.ntmps31
  go_upto_region 1 with fail
  clear c0_0 c0_1 c0_2
  generalize (w.alloc (.cells #[.bool b1, .slice p1 l1 K1, .slice q1 j1 J1] 27)) = w1 at S n1 d1 ⊢
  have HH := Hold.drew w1
  replace n1 := n1.hold HH
  replace d1 := d1.hold HH
  replace S := S.drew
  refine wp_region_held_drew (S := fun W => W.cell? ⟨w.heap.size, 0, none⟩ = some (.bool b1) ∧ W.cell? ⟨w.heap.size, 1, none⟩ = some (.slice p1 l1 K1) ∧ W.cell? ⟨w.heap.size, 2, none⟩ = some (.slice q1 j1 J1)) (by kernel_rfl) ⟨S.c 0 0 rfl rfl, S.c 0 1 rfl rfl, S.c 0 2 rfl rfl⟩ (fun hS => ?_)
  generalize w1.drew = w2 at S n1 d1 HH hS ⊢
  refine wpAnyH_take (i := 0) (v := ?_) ((List.getElem?_toArray ..).trans rfl) (by kernel_rfl) (by kernel_rfl) (by kernel_rfl) (fun _ _ _ h => h) (Or.inl ⟨rfl, fun W hW => ?_⟩) hS ?_
  rotate_left
  · obtain ⟨hW0, hW1, hW2⟩ := hW; go_simp; try first | rfl | (rw [if_neg (by first | omega | (simp only [ByteArray.size_append]; first | omega | (have h1 : (ByteArray.mk #[47]).size = 1 := rfl; omega)))]; try rfl) | kernel_rfl
  try simp only [Act.put, List.setIfInBounds_toArray, List.set_cons_zero, List.set_cons_succ]
  refine wpAnyH_take (i := 1) (v := ?_) ((List.getElem?_toArray ..).trans rfl) (by kernel_rfl) (by kernel_rfl) (by kernel_rfl) (fun _ _ _ h => h) (Or.inl ⟨rfl, fun W hW => ?_⟩) hS ?_
  rotate_left
  · obtain ⟨hW0, hW1, hW2⟩ := hW; go_simp; try first | rfl | (rw [if_neg (by first | omega | (simp only [ByteArray.size_append]; first | omega | (have h1 : (ByteArray.mk #[47]).size = 1 := rfl; omega)))]; try rfl) | kernel_rfl
  try simp only [Act.put, List.setIfInBounds_toArray, List.set_cons_zero, List.set_cons_succ]
  refine wpAnyH_take (i := 3) (v := ?_) ((List.getElem?_toArray ..).trans rfl) (by kernel_rfl) (by kernel_rfl) (by kernel_rfl) (fun _ _ _ h => h) (Or.inl ⟨rfl, fun W hW => ?_⟩) hS ?_
  rotate_left
  · obtain ⟨hW0, hW1, hW2⟩ := hW; go_simp; try first | rfl | (rw [if_neg (by first | omega | (simp only [ByteArray.size_append]; first | omega | (have h1 : (ByteArray.mk #[47]).size = 1 := rfl; omega)))]; try rfl) | kernel_rfl
  try simp only [Act.put, List.setIfInBounds_toArray, List.set_cons_zero, List.set_cons_succ]
  refine wpAnyH_take (i := 4) (v := ?_) ((List.getElem?_toArray ..).trans rfl) (by kernel_rfl) (by kernel_rfl) (by kernel_rfl) (fun _ _ _ h => h) (Or.inl ⟨rfl, fun W hW => ?_⟩) hS ?_
  rotate_left
  · obtain ⟨hW0, hW1, hW2⟩ := hW; go_simp; try first | rfl | (rw [if_neg (by first | omega | (simp only [ByteArray.size_append]; first | omega | (have h1 : (ByteArray.mk #[47]).size = 1 := rfl; omega)))]; try rfl) | kernel_rfl
  try simp only [Act.put, List.setIfInBounds_toArray, List.set_cons_zero, List.set_cons_succ]
  refine wpAnyH_ready (rs := [2]) (by kernel_rfl) (by simp) (AllReadyH.cons ((List.getElem?_toArray ..).trans rfl) (fun KK hKK => ?_) AllReadyH.nil)
  go_simp
  clear hS
  refine (S.call (wcheck_any ⟨_, _, _, by rw [hb1.out], n1⟩ HX.out.1)).mono ?_
  clear S
  rintro e w3 ⟨rfl, S, H⟩
  replace n1 := n1.hold H
  replace d1 := d1.hold H
  replace HH := HH.trans H
  clear H
  go_wp2_with fail
  refine hKK.out _ _ ⟨S.c 0 0 rfl rfl, S.c 0 1 rfl rfl, S.c 0 2 rfl rfl⟩ (fun hS => ?_)
  clear hKK KK
  try simp only [Act.put, List.setIfInBounds_toArray, List.set_cons_zero, List.set_cons_succ]
  refine wpAnyH_ready (rs := [5]) (by kernel_rfl) (by simp) (AllReadyH.cons ((List.getElem?_toArray ..).trans rfl) (fun KK hKK => ?_) AllReadyH.nil)
  go_simp
  clear hS
  refine (S.call (check_nat d1 HX.out.2)).mono ?_
  clear S
  rintro e w4 ⟨rfl, S, H⟩
  replace n1 := n1.hold H
  replace d1 := d1.hold H
  replace HH := HH.trans H
  clear H
  go_wp2_with fail
  refine hKK.out _ _ ⟨S.c 0 0 rfl rfl, S.c 0 1 rfl rfl, S.c 0 2 rfl rfl⟩ (fun hS => ?_)
  clear hKK KK
  try simp only [Act.put, List.setIfInBounds_toArray, List.set_cons_zero, List.set_cons_succ]
  refine wpAnyH_ready (rs := [6]) (by kernel_rfl) (by simp) (AllReadyH.cons ((List.getElem?_toArray ..).trans rfl) (fun KK hKK => ?_) AllReadyH.nil)
  go_simp
  clear hS
  have H := S.hnew 31 [.int .i64 0, .int .i64 0]
  replace S := S.alloc 31 [.int .i64 0, .int .i64 0] (w4.heap.size)
  try simp only [List.cons_append, List.nil_append] at S
  replace n1 := n1.hold H
  replace d1 := d1.hold H
  replace HH := HH.trans H
  clear H
  refine hKK.out _ _ ⟨S.c 0 0 rfl rfl, S.c 0 1 rfl rfl, S.c 0 2 rfl rfl⟩ (fun hS => ?_)
  generalize (w4.alloc (.cells #[.int .i64 0, .int .i64 0] 31)) = w5 at S n1 d1 HH hS ⊢
  clear hKK KK
  try simp only [Act.put, List.setIfInBounds_toArray, List.set_cons_zero, List.set_cons_succ]
  refine wpAnyH_ready (rs := [7]) (by kernel_rfl) (by simp) (AllReadyH.cons ((List.getElem?_toArray ..).trans rfl) (fun KK hKK => ?_) AllReadyH.nil)
  go_simp
  clear hS
  refine (S.call (or_two S 1 rfl)).mono ?_
  clear S
  rintro e w6 ⟨rfl, S, H⟩
  replace n1 := n1.hold H
  replace d1 := d1.hold H
  replace HH := HH.trans H
  clear H
  go_wp2_with fail
  refine hKK.out _ _ ⟨S.c 0 0 rfl rfl, S.c 0 1 rfl rfl, S.c 0 2 rfl rfl⟩ (fun hS => ?_)
  clear hKK KK
  try simp only [Act.put, List.setIfInBounds_toArray, List.set_cons_zero, List.set_cons_succ]
  refine wpAnyH_ready (rs := [8]) (by kernel_rfl) (by simp) (AllReadyH.cons ((List.getElem?_toArray ..).trans rfl) (fun KK hKK => ?_) AllReadyH.nil)
  go_simp
  refine hKK.out _ _ hS (fun hS => ?_)
  clear hKK KK
  try simp only [Act.put, List.setIfInBounds_toArray, List.set_cons_zero, List.set_cons_succ]
  refine wpAnyH_done (by kernel_rfl) ?_ _
  clear hS HH
  have c0_0 := S.c 0 0 rfl rfl
  have c0_1 := S.c 0 1 rfl rfl
  have c0_2 := S.c 0 2 rfl rfl
  go_wp2_with fail
  clear c0_0 c0_1 c0_2
  refine (S.call (bits_nat d1 HX.out.2 HD.out.1)).mono ?_
  clear S
  rintro e w7 ⟨rfl, S, H⟩
  replace n1 := n1.hold H
  replace d1 := d1.hold H
  clear H
  have c0_0 := S.c 0 0 rfl rfl
  have c0_1 := S.c 0 1 rfl rfl
  have c0_2 := S.c 0 2 rfl rfl
  go_wp2_with fail
  clear c0_0 c0_1 c0_2
  refine (S.call (gcd_any n1 d1 HX.out.1 HX.out.2)).mono ?_
  clear S
  rintro e w8 ⟨⟨v, rfl, nv⟩, S, H⟩
  replace n1 := n1.hold H
  replace d1 := d1.hold H
  clear H
  have c0_0 := S.c 0 0 rfl rfl
  have c0_1 := S.c 0 1 rfl rfl
  have c0_2 := S.c 0 2 rfl rfl
  rw [HD.out.2] at nv
  go_wp2_with fail
  clear c0_0 c0_1 c0_2
  refine (S.call (bits_nat nv (lit_max 1 (by decide)) (t := 1) rfl)).mono ?_
  clear S
  rintro e w9 ⟨rfl, S, H⟩
  replace n1 := n1.hold H
  replace d1 := d1.hold H
  replace nv := nv.hold H
  clear H
  have c0_0 := S.c 0 0 rfl rfl
  have c0_1 := S.c 0 1 rfl rfl
  have c0_2 := S.c 0 2 rfl rfl
  go_wp2_with fail
  exact bodyPost_ret (v := .int .i64 0) (by simp [results, Tryz.f31, go_sem]) rfl (⟨rfl, S.below⟩)

end Go.Proofs.YtggnjlbnfgjgdaaGreat

namespace Go.Proofs.YtggnjlbnfgjgdaaGreat
open Go.RowKit



end Go.Proofs.YtggnjlbnfgjgdaaGreat

namespace Go.Proofs.YtggnjlbnfgjgdaaGreat
open Go.RowKit

set_option maxRecDepth 100000 in
set_option maxHeartbeats 1000000 in
/-- The first of some numbers that isn't nothing. -/
theorem or_list (g n : Nat) (E : Nat → Int) (w : World) (hg : g < w.heap.size) (hn : n ≤ 1000) (hs : ∀ j, j < n → w.cell? ⟨g, j, none⟩ = some (.int .i64 (E j))) :
    Calls Tryz.prog 56 #[.slice (some ⟨g, 0, none⟩) n n] w fun e w' => (∃ r, e = .returned (.int .i64 r) ∧ Hid (r = 0 → ∀ j, j < n → E j = 0)) ∧ Below w.heap.size w w' := by
  have HS := Lib.hid hs
  clear hs
  have S := St.start w
  go_enter Tryz.func56, Tryz.ntmps56
  go_wp2_with fail
  go_loopw [8] (fun si wr => ∃ k : Nat, k ≤ n ∧ si = .int .i64 k ∧ Hid (∀ j, j < k → E j = 0) ∧ St w wr []) (fun si _ => n - (intOf si).toNat)
  case atStart => exact ⟨0, by omega, rfl, fun j hj => by omega, S⟩
  case round =>
    obtain ⟨k, hk, rfl, hz, S⟩ := hrel
    by_cases hlt : k < n
    · have a0 := (S.below.cell (p := ⟨g, k, none⟩) hg).trans (HS.out k hlt)
      have HL := Lib.hid hlt
      have hki : (k : Int) < ((n : Nat) : Int) := by omega
      obtain ⟨ek, hek⟩ : ∃ ek, E k = ek := ⟨_, rfl⟩
      have HE := Lib.hid hek
      rw [hek] at a0
      clear hlt hek
      by_cases h0 : ek = 0
      · have h0' : (ek != 0) = false := by rw [h0]; rfl
        have H0 := Lib.hid h0
        clear h0
        go_wp2_with fail
        go_roundw
        case rel =>
          refine ⟨k + 1, HL.out, by go_num, fun j hj => ?_, S⟩
          by_cases hjk : j = k
          · rw [hjk, HE.out, H0.out]
          · exact hz.out j (by omega)
        case measure => have := HL.out; simp [intOf]; omega
      · have h0' : (ek != 0) = true := by simpa using h0
        have H0 := Lib.hid h0
        clear h0
        go_wp2_with fail
        go_ret
        exact ⟨⟨ek, rfl, fun h => absurd h H0.out⟩, S.below⟩
    · have hge : ¬ (k : Int) < ((n : Nat) : Int) := by omega
      have HZ : ∀ j, j < n → E j = 0 := fun j hj => hz.out j (by omega)
      have HZ := Lib.hid HZ
      clear hlt hz
      go_wp2
      go_ret
      exact ⟨⟨0, rfl, fun _ => HZ.out⟩, S.below⟩

theorem or_pair {g : Nat} {w W : World} {L : List (Nat × TypeId × List Value)} (S : St w W L) (i : Nat) {t : TypeId} {c d : Int} (hi : L[i]? = some (g, t, [.int .i64 c, .int .i64 d])) :
    Calls Tryz.prog 56 #[.slice (some ⟨g, 0, none⟩) 2 2] W fun e w' => (∃ r, e = .returned (.int .i64 r) ∧ Hid (r = 0 → c = 0 ∧ d = 0)) ∧ Below W.heap.size W w' :=
  (or_list g 2 (fun j => [c, d].getD j 0) W (S.lt i hi) (by decide) fun j hj => by
    match j, hj with
    | 0, _ => exact S.c i 0 hi rfl
    | 1, _ => exact S.c i 1 hi rfl).mono fun e w' ⟨⟨r, he, hr⟩, hB⟩ => ⟨⟨r, he, fun h => ⟨hr.out h 0 (by decide), hr.out h 1 (by decide)⟩⟩, hB⟩

theorem check_rawN (p : Option Addr) (K l : Nat) (es : List Nat) (w : World) (hat : At .u32 w p K es) (hl : es.length = l) (h5 : l ≤ 1000000) (c : Int) (hc : ((checkOf es : Nat) : Int) = c) :
    Calls Tryz.prog 46 #[.slice p l K] w fun e w' => e = .returned (.int .i64 c) ∧ Below w.heap.size w w' := by
  subst hl; subst hc
  exact check_any hat.nums h5
/-- What may be a ratio. -/
def ValidR (b : Bool) (ds es : List Nat) : Prop := (cut ds = ds ∧ (b = true → ds ≠ [])) ∧ cut es = es ∧ val 4294967296 es ≠ 0 ∧ Nat.gcd (val 4294967296 ds) (val 4294967296 es) = 1
theorem check_cut {es : List Nat} (hl : es.length ≤ 512) (h : ((checkOf es : Nat) : Int) = 0) : cut es = es := by
  have hz : checkOf es = 0 := by omega
  unfold checkOf at hz
  rw [if_neg (by omega)] at hz
  split at hz
  · omega
  · rename_i h2
    have := cut_le es
    exact cut_full es (by omega)
theorem bits_le_one {g : Nat} (h0 : g ≠ 0) (h : ¬ 1 < nbits g) : g = 1 := by
  obtain ⟨h1, h2, h3⟩ := nbits_spec h0
  have : nbits g = 1 := by omega
  rw [this] at h3
  omega

set_option maxRecDepth 100000 in
set_option maxHeartbeats 4000000 in
theorem rcheck_raw (b : Bool) (p p' : Option Addr) (K K' l l' : Nat) (ds es : List Nat) (w : World) (at1 : At .u32 w p K ds) (at2 : At .u32 w p' K' es) (d1 : Dig 4294967296 ds) (d2 : Dig 4294967296 es) (hl : ds.length = l) (hl' : es.length = l') (h5 : l ≤ 512) (h5' : l' ≤ 512) :
    Calls Tryz.prog 31 #[.agg #[.bool b, .slice p l K, .slice p' l' K']] w fun e w' => (∃ c : Int, e = .returned (.int .i64 c) ∧ Hid (c = 0 → ValidR b ds es)) ∧ Below w.heap.size w w' := by
  obtain ⟨c2, hc2⟩ : ∃ c2 : Int, ((checkOf es : Nat) : Int) = c2 := ⟨_, rfl⟩
  have HD := Lib.hid (And.intro d1 (And.intro d2 (And.intro hl (And.intro hl' (And.intro h5 (And.intro h5' hc2))))))
  clear d1 d2 hl hl' h5 h5' hc2
  have S := (St.start w).alloc 27 [.bool b, .slice p l K, .slice p' l' K'] (w.heap.size)
  replace at1 := at1.hold S.hold
  replace at2 := at2.hold S.hold
  have c0_0 := S.c 0 0 rfl rfl
  have c0_1 := S.c 0 1 rfl rfl
  have c0_2 := S.c 0 2 rfl rfl
  go_enter Tryz.func31, Tryz.ntmps31
  go_upto_region 1 with fail
  clear c0_0 c0_1 c0_2
  generalize (w.alloc (.cells #[.bool b, .slice p l K, .slice p' l' K'] 27)) = w1 at S at1 at2 ⊢
  have HH := Hold.drew w1
  replace at1 := at1.hold HH
  replace at2 := at2.hold HH
  replace S := S.drew
  refine wp_region_held_drew (S := fun W => W.cell? ⟨w.heap.size, 0, none⟩ = some (.bool b) ∧ W.cell? ⟨w.heap.size, 1, none⟩ = some (.slice p l K) ∧ W.cell? ⟨w.heap.size, 2, none⟩ = some (.slice p' l' K')) (by kernel_rfl) ⟨S.c 0 0 rfl rfl, S.c 0 1 rfl rfl, S.c 0 2 rfl rfl⟩ (fun hS => ?_)
  generalize w1.drew = w2 at S at1 at2 HH hS ⊢
  refine wpAnyH_take (i := 0) (v := ?_) ((List.getElem?_toArray ..).trans rfl) (by kernel_rfl) (by kernel_rfl) (by kernel_rfl) (fun _ _ _ h => h) (Or.inl ⟨rfl, fun W hW => ?_⟩) hS ?_
  rotate_left
  · obtain ⟨hW0, hW1, hW2⟩ := hW; go_simp; try first | rfl | kernel_rfl
  try simp only [Act.put, List.setIfInBounds_toArray, List.set_cons_zero, List.set_cons_succ]
  refine wpAnyH_take (i := 1) (v := ?_) ((List.getElem?_toArray ..).trans rfl) (by kernel_rfl) (by kernel_rfl) (by kernel_rfl) (fun _ _ _ h => h) (Or.inl ⟨rfl, fun W hW => ?_⟩) hS ?_
  rotate_left
  · obtain ⟨hW0, hW1, hW2⟩ := hW; go_simp; try first | rfl | kernel_rfl
  try simp only [Act.put, List.setIfInBounds_toArray, List.set_cons_zero, List.set_cons_succ]
  refine wpAnyH_take (i := 3) (v := ?_) ((List.getElem?_toArray ..).trans rfl) (by kernel_rfl) (by kernel_rfl) (by kernel_rfl) (fun _ _ _ h => h) (Or.inl ⟨rfl, fun W hW => ?_⟩) hS ?_
  rotate_left
  · obtain ⟨hW0, hW1, hW2⟩ := hW; go_simp; try first | rfl | kernel_rfl
  try simp only [Act.put, List.setIfInBounds_toArray, List.set_cons_zero, List.set_cons_succ]
  refine wpAnyH_take (i := 4) (v := ?_) ((List.getElem?_toArray ..).trans rfl) (by kernel_rfl) (by kernel_rfl) (by kernel_rfl) (fun _ _ _ h => h) (Or.inl ⟨rfl, fun W hW => ?_⟩) hS ?_
  rotate_left
  · obtain ⟨hW0, hW1, hW2⟩ := hW; go_simp; try first | rfl | kernel_rfl
  try simp only [Act.put, List.setIfInBounds_toArray, List.set_cons_zero, List.set_cons_succ]
  refine wpAnyH_ready (rs := [2]) (by kernel_rfl) (by simp) (AllReadyH.cons ((List.getElem?_toArray ..).trans rfl) (fun KK hKK => ?_) AllReadyH.nil)
  go_simp
  clear hS
  refine (S.call (wcheck_raw b p K l ds _ at1 HD.out.1 HD.out.2.2.1 HD.out.2.2.2.2.1)).mono ?_
  clear S
  rintro e w3 ⟨⟨c1, rfl, h1⟩, S, H⟩
  replace at1 := at1.hold H
  replace at2 := at2.hold H
  replace HH := HH.trans H
  clear H
  go_wp2_with fail
  refine hKK.out _ _ ⟨S.c 0 0 rfl rfl, S.c 0 1 rfl rfl, S.c 0 2 rfl rfl⟩ (fun hS => ?_)
  clear hKK KK
  try simp only [Act.put, List.setIfInBounds_toArray, List.set_cons_zero, List.set_cons_succ]
  refine wpAnyH_ready (rs := [5]) (by kernel_rfl) (by simp) (AllReadyH.cons ((List.getElem?_toArray ..).trans rfl) (fun KK hKK => ?_) AllReadyH.nil)
  go_simp
  clear hS
  refine (S.call (check_rawN p' K' l' es _ at2 HD.out.2.2.2.1 (by have := HD.out.2.2.2.2.2.1; omega) c2 HD.out.2.2.2.2.2.2)).mono ?_
  clear S
  rintro e w4 ⟨rfl, S, H⟩
  replace at1 := at1.hold H
  replace at2 := at2.hold H
  replace HH := HH.trans H
  clear H
  go_wp2_with fail
  refine hKK.out _ _ ⟨S.c 0 0 rfl rfl, S.c 0 1 rfl rfl, S.c 0 2 rfl rfl⟩ (fun hS => ?_)
  clear hKK KK
  try simp only [Act.put, List.setIfInBounds_toArray, List.set_cons_zero, List.set_cons_succ]
  refine wpAnyH_ready (rs := [6]) (by kernel_rfl) (by simp) (AllReadyH.cons ((List.getElem?_toArray ..).trans rfl) (fun KK hKK => ?_) AllReadyH.nil)
  go_simp
  clear hS
  have H := S.hnew 31 [.int .i64 c1, .int .i64 c2]
  replace S := S.alloc 31 [.int .i64 c1, .int .i64 c2] (w4.heap.size)
  replace at1 := at1.hold H
  replace at2 := at2.hold H
  replace HH := HH.trans H
  clear H
  refine hKK.out _ _ ⟨S.c 0 0 rfl rfl, S.c 0 1 rfl rfl, S.c 0 2 rfl rfl⟩ (fun hS => ?_)
  generalize (w4.alloc (.cells #[.int .i64 c1, .int .i64 c2] 31)) = w5 at S at1 at2 HH hS ⊢
  clear hKK KK
  try simp only [Act.put, List.setIfInBounds_toArray, List.set_cons_zero, List.set_cons_succ]
  refine wpAnyH_ready (rs := [7]) (by kernel_rfl) (by simp) (AllReadyH.cons ((List.getElem?_toArray ..).trans rfl) (fun KK hKK => ?_) AllReadyH.nil)
  go_simp
  clear hS
  refine (S.call (or_pair S 1 rfl)).mono ?_
  clear S
  rintro e w6 ⟨⟨r, rfl, hr⟩, S, H⟩
  replace at1 := at1.hold H
  replace at2 := at2.hold H
  replace HH := HH.trans H
  clear H
  go_wp2_with fail
  refine hKK.out _ _ ⟨S.c 0 0 rfl rfl, S.c 0 1 rfl rfl, S.c 0 2 rfl rfl⟩ (fun hS => ?_)
  clear hKK KK
  try simp only [Act.put, List.setIfInBounds_toArray, List.set_cons_zero, List.set_cons_succ]
  refine wpAnyH_ready (rs := [8]) (by kernel_rfl) (by simp) (AllReadyH.cons ((List.getElem?_toArray ..).trans rfl) (fun KK hKK => ?_) AllReadyH.nil)
  go_simp
  refine hKK.out _ _ hS (fun hS => ?_)
  clear hKK KK
  try simp only [Act.put, List.setIfInBounds_toArray, List.set_cons_zero, List.set_cons_succ]
  refine wpAnyH_done (by kernel_rfl) ?_ _
  clear hS HH
  by_cases h0 : r = 0
  · have h0' : (r != 0) = false := by rw [h0]; rfl
    obtain ⟨e1, e2⟩ := hr.out h0
    have v1 := h1.out e1
    have v2 := check_cut (by have := HD.out.2.2.2.1; have := HD.out.2.2.2.2.2.1; omega) (HD.out.2.2.2.2.2.2.trans e2)
    have nn : IsNat w6 (.slice p l K) (val 4294967296 ds) := by rw [← HD.out.2.2.1]; exact ⟨ds, at1.nums, ⟨HD.out.1, v1.1⟩, rfl⟩
    have nd : IsNat w6 (.slice p' l' K') (val 4294967296 es) := by rw [← HD.out.2.2.2.1]; exact ⟨es, at2.nums, ⟨HD.out.2.1, v2⟩, rfl⟩
    have m1 : val 4294967296 ds < maxN := Can.len_max ⟨HD.out.1, v1.1⟩ |>.1 (by rw [HD.out.2.2.1]; exact HD.out.2.2.2.2.1)
    have m2 : val 4294967296 es < maxN := Can.len_max ⟨HD.out.2.1, v2⟩ |>.1 (by rw [HD.out.2.2.2.1]; exact HD.out.2.2.2.2.2.1)
    obtain ⟨n, hn⟩ : ∃ n, val 4294967296 ds = n := ⟨_, rfl⟩
    obtain ⟨m, hm⟩ : ∃ m, val 4294967296 es = m := ⟨_, rfl⟩
    rw [hn] at nn m1
    rw [hm] at nd m2
    have HV := Lib.hid (And.intro v1 (And.intro v2 (And.intro hn (And.intro hm (And.intro m1 m2)))))
    obtain ⟨t, ht⟩ : ∃ t, nbits m = t := ⟨_, rfl⟩
    have HT := Lib.hid ht
    clear hr h1 e1 e2 v1 v2 hn hm m1 m2 ht h0
    clear at1 at2
    have c0_0 := S.c 0 0 rfl rfl
    have c0_1 := S.c 0 1 rfl rfl
    have c0_2 := S.c 0 2 rfl rfl
    go_wp2_with fail
    clear c0_0 c0_1 c0_2
    refine (S.call (bits_nat nd HV.out.2.2.2.2.2 HT.out)).mono ?_
    clear S
    rintro e w7 ⟨rfl, S, H⟩
    replace nn := nn.hold H
    replace nd := nd.hold H
    clear H
    have c0_0 := S.c 0 0 rfl rfl
    have c0_1 := S.c 0 1 rfl rfl
    have c0_2 := S.c 0 2 rfl rfl
    by_cases ht0 : t = 0
    · subst ht0
      go_wp2_with fail
      exact bodyPost_ret (v := .int .i64 2) (by simp [results, Tryz.f31, go_sem]) rfl (⟨⟨2, rfl, fun h => by cases h⟩, S.below⟩)
    · have htI : ((t : Int) == 0) = false := by simpa using ht0
      have htJ : ¬ (t : Int) = 0 := by omega
      have hm0 : m ≠ 0 := fun e => ht0 (by rw [← HT.out, e]; rfl)
      have HM := Lib.hid hm0
      clear ht0 hm0
      go_wp2_with fail
      clear c0_0 c0_1 c0_2
      refine (S.call (gcd_any nn nd HV.out.2.2.2.2.1 HV.out.2.2.2.2.2)).mono ?_
      clear S
      rintro e w8 ⟨⟨v, rfl, nv⟩, S, H⟩
      replace nn := nn.hold H
      replace nd := nd.hold H
      clear H
      have c0_0 := S.c 0 0 rfl rfl
      have c0_1 := S.c 0 1 rfl rfl
      have c0_2 := S.c 0 2 rfl rfl
      obtain ⟨u, hu⟩ : ∃ u, nbits (Nat.gcd n m) = u := ⟨_, rfl⟩
      have HU := Lib.hid hu
      have hgm : Nat.gcd n m < maxN := Nat.lt_of_le_of_lt (Nat.gcd_le_right _ (by have := HM.out; omega)) HV.out.2.2.2.2.2
      have HG := Lib.hid hgm
      clear hu hgm
      go_wp2_with fail
      clear c0_0 c0_1 c0_2
      refine (S.call (bits_nat nv HG.out HU.out)).mono ?_
      clear S
      rintro e w9 ⟨rfl, S, H⟩
      replace nn := nn.hold H
      replace nd := nd.hold H
      replace nv := nv.hold H
      clear H
      have c0_0 := S.c 0 0 rfl rfl
      have c0_1 := S.c 0 1 rfl rfl
      have c0_2 := S.c 0 2 rfl rfl
      by_cases hu1 : 1 < u
      · have hu1' : (1 : Int) < (u : Int) := by omega
        go_wp2_with fail
        exact bodyPost_ret (v := .int .i64 2) (by simp [results, Tryz.f31, go_sem]) rfl (⟨⟨2, rfl, fun h => by cases h⟩, S.below⟩)
      · have hu1' : ¬ (1 : Int) < (u : Int) := by omega
        have HOK := Lib.hid (show ValidR b ds es from ⟨HV.out.1, HV.out.2.1, by rw [HV.out.2.2.2.1]; exact HM.out, by rw [HV.out.2.2.1, HV.out.2.2.2.1]; exact bits_le_one (fun e => HM.out (Nat.gcd_eq_zero_iff.1 e).2) (by rw [HU.out]; exact hu1)⟩)
        clear hu1
        go_wp2_with fail
        exact bodyPost_ret (v := .int .i64 0) (by simp [results, Tryz.f31, go_sem]) rfl (⟨⟨0, rfl, fun _ => HOK.out⟩, S.below⟩)
  · have h0' : (r != 0) = true := by simpa using h0
    have H0 := Lib.hid h0
    clear h0
    go_wp2_with fail
    exact bodyPost_ret (v := .int .i64 r) (by simp [results, Tryz.f31, go_sem]) rfl (⟨⟨r, rfl, fun h => absurd h H0.out⟩, S.below⟩)

end Go.Proofs.YtggnjlbnfgjgdaaGreat

namespace Go.Proofs.YtggnjlbnfgjgdaaGreat
open Go.RowKit

/-- A ratio that is tried: short, and as it should stand. -/
def TriedR (k : Nat) (b : Bool) (ds es : List Nat) : Prop := ds.length ≤ k ∧ es.length ≤ k ∧ ValidR b ds es

set_option maxRecDepth 100000 in
set_option maxHeartbeats 2000000 in
theorem rfit_any (g n : Nat) (B : Nat → Bool) (P P' : Nat → Option Addr) (K K' : Nat → Nat) (D E : Nat → List Nat) (w : World) (hg : g < w.heap.size) (hn : n ≤ 1000)
    (hs : ∀ j, j < n → w.cell? ⟨g, j * 3, none⟩ = some (.bool (B j)) ∧ w.cell? ⟨g, j * 3 + 1, none⟩ = some (.slice (P j) (D j).length (K j)) ∧ w.cell? ⟨g, j * 3 + 2, none⟩ = some (.slice (P' j) (E j).length (K' j)) ∧ At .u32 w (P j) (K j) (D j) ∧ At .u32 w (P' j) (K' j) (E j) ∧ Dig 4294967296 (D j) ∧ Dig 4294967296 (E j)) :
    Calls Tryz.prog 5 #[.slice (some ⟨g, 0, none⟩) n n] w fun e w' => (∃ b, e = .returned (.bool b) ∧ Hid (b = true → ∀ j, j < n → TriedR 20 (B j) (D j) (E j))) ∧ Below w.heap.size w w' := by
  have HS := Lib.hid hs
  clear hs
  have S := St.start w
  go_enter Tryz.func5, Tryz.ntmps5
  go_wp2_with fail
  go_loopw [7] (fun si wr => ∃ k : Nat, k ≤ n ∧ si = .int .i64 k ∧ Hid (∀ j, j < k → TriedR 20 (B j) (D j) (E j)) ∧ St w wr []) (fun si _ => n - (intOf si).toNat)
  case atStart => exact ⟨0, by omega, rfl, fun j hj => by omega, S⟩
  case round =>
    obtain ⟨k, hk, rfl, hz, S⟩ := hrel
    by_cases hlt : k < n
    · have a0 := (S.below.cell (p := ⟨g, k * 3, none⟩) hg).trans (HS.out k hlt).1
      have a1 := (S.below.cell (p := ⟨g, k * 3 + 1, none⟩) hg).trans (HS.out k hlt).2.1
      have a2 := (S.below.cell (p := ⟨g, k * 3 + 2, none⟩) hg).trans (HS.out k hlt).2.2.1
      have at1 := (HS.out k hlt).2.2.2.1.below S.below (Nat.le_refl _)
      have at2 := (HS.out k hlt).2.2.2.2.1.below S.below (Nat.le_refl _)
      have HD := Lib.hid (HS.out k hlt).2.2.2.2.2
      have HL := Lib.hid hlt
      have hki : (k : Int) < ((n : Nat) : Int) := by omega
      obtain ⟨l, hl⟩ : ∃ l, (D k).length = l := ⟨_, rfl⟩
      obtain ⟨m, hm⟩ : ∃ l, (E k).length = l := ⟨_, rfl⟩
      have HL2 := Lib.hid (And.intro hl hm)
      rw [hl] at a1
      rw [hm] at a2
      clear hl hm hlt
      by_cases h20 : 20 < l
      · have h20' : (20 : Int) < (l : Int) := by omega
        have H := S.hnew 27 [.bool (B k), .slice (P k) l (K k), .slice (P' k) m (K' k)]
        replace S := S.alloc 27 [.bool (B k), .slice (P k) l (K k), .slice (P' k) m (K' k)] (wr.heap.size)
        clear H
        have c0_0 := S.c 0 0 rfl rfl
        have c0_1 := S.c 0 1 rfl rfl
        have c0_2 := S.c 0 2 rfl rfl
        go_wp2_with fail
        go_ret
        first | exact ⟨⟨false, rfl, fun h => by cases h⟩, S.below⟩ | exact ⟨.inl ⟨rfl, fun _ => trivial⟩, S.below⟩ | exact ⟨.inl ⟨rfl, Lib.hid trivial⟩, S.below⟩ | exact ⟨.inl rfl, S.below⟩
      · have h20' : ¬ (20 : Int) < (l : Int) := by omega
        by_cases h21 : 20 < m
        · have h21' : (20 : Int) < (m : Int) := by omega
          have H := S.hnew 27 [.bool (B k), .slice (P k) l (K k), .slice (P' k) m (K' k)]
          replace S := S.alloc 27 [.bool (B k), .slice (P k) l (K k), .slice (P' k) m (K' k)] (wr.heap.size)
          clear H
          have c0_0 := S.c 0 0 rfl rfl
          have c0_1 := S.c 0 1 rfl rfl
          have c0_2 := S.c 0 2 rfl rfl
          go_wp2_with fail
          go_ret
          first | exact ⟨⟨false, rfl, fun h => by cases h⟩, S.below⟩ | exact ⟨.inl ⟨rfl, fun _ => trivial⟩, S.below⟩ | exact ⟨.inl ⟨rfl, Lib.hid trivial⟩, S.below⟩ | exact ⟨.inl rfl, S.below⟩
        · have h21' : ¬ (20 : Int) < (m : Int) := by omega
          have H := S.hnew 27 [.bool (B k), .slice (P k) l (K k), .slice (P' k) m (K' k)]
          replace S := S.alloc 27 [.bool (B k), .slice (P k) l (K k), .slice (P' k) m (K' k)] (wr.heap.size)
          replace at1 := at1.hold H
          replace at2 := at2.hold H
          clear H
          have c0_0 := S.c 0 0 rfl rfl
          have c0_1 := S.c 0 1 rfl rfl
          have c0_2 := S.c 0 2 rfl rfl
          go_wp2_with fail
          clear c0_0 c0_1 c0_2
          refine (S.call (rcheck_raw (B k) (P k) (P' k) (K k) (K' k) l m (D k) (E k) _ at1 at2 HD.out.1 HD.out.2 HL2.out.1 HL2.out.2 (by omega) (by omega))).mono ?_
          clear S
          rintro e w1 ⟨⟨c, rfl, hc⟩, S, H⟩
          replace at1 := at1.hold H
          replace at2 := at2.hold H
          clear H
          have c0_0 := S.c 0 0 rfl rfl
          have c0_1 := S.c 0 1 rfl rfl
          have c0_2 := S.c 0 2 rfl rfl
          by_cases h0 : c = 0
          · have h0' : (c != 0) = false := by rw [h0]; rfl
            have HT := Lib.hid (show TriedR 20 (B k) (D k) (E k) from ⟨by rw [HL2.out.1]; omega, by rw [HL2.out.2]; omega, hc.out h0⟩)
            clear h0 hc
            go_wp2_with fail
            replace S := S.take 0 (L := []) rfl
            go_roundw
            case rel =>
              refine ⟨k + 1, HL.out, by go_num, fun j hj => ?_, S⟩
              by_cases hjk : j = k
              · rw [hjk]; exact HT.out
              · exact hz.out j (by omega)
            case measure => have := HL.out; simp [intOf]; omega
          · have h0' : (c != 0) = true := by simpa using h0
            clear h0 hc
            go_wp2_with fail
            go_ret
            first | exact ⟨⟨false, rfl, fun h => by cases h⟩, S.below⟩ | exact ⟨.inl ⟨rfl, fun _ => trivial⟩, S.below⟩ | exact ⟨.inl ⟨rfl, Lib.hid trivial⟩, S.below⟩ | exact ⟨.inl rfl, S.below⟩
    · have hge : ¬ (k : Int) < ((n : Nat) : Int) := by omega
      have HZ : ∀ j, j < n → TriedR 20 (B j) (D j) (E j) := fun j hj => hz.out j (by omega)
      have HZ := Lib.hid HZ
      clear hlt
      go_wp2
      go_ret
      first | exact ⟨⟨true, rfl, fun _ => HZ.out⟩, S.below⟩ | exact ⟨.inr ⟨rfl, HZ⟩, S.below⟩ | exact ⟨.inr ⟨rfl, fun _ => HZ.out⟩, S.below⟩ | exact ⟨.inr rfl, S.below⟩

theorem tried_rat {b : Bool} {ds es : List Nat} {k l m : Nat} {p p' : Option Addr} {K K' : Nat} {w : World} (h : TriedR k b ds es) (d1 : Dig 4294967296 ds) (d2 : Dig 4294967296 es) (hl : ds.length = l) (hm : es.length = m) (at1 : At .u32 w p K ds) (at2 : At .u32 w p' K' es) :
    ∃ q : Rat, Hid (negB q.num = b) ∧ RB q k ∧ IsNat w (.slice p l K) q.num.natAbs ∧ IsNat w (.slice p' m K') q.den := by
  subst hl; subst hm
  obtain ⟨h1, h2, ⟨v1, v2⟩, v3, v4, v5⟩ := h
  have c1 : Can 4294967296 ds := ⟨d1, v1⟩
  have c2 : Can 4294967296 es := ⟨d2, v3⟩
  have n1 : IsNat w (.slice p ds.length K) (val 4294967296 ds) := ⟨ds, at1.nums, c1, rfl⟩
  have n2 : IsNat w (.slice p' es.length K') (val 4294967296 es) := ⟨es, at2.nums, c2, rfl⟩
  have b1 := nb_len c1 h1
  have b2 := nb_len c2 h2
  cases b with
  | false =>
    refine ⟨⟨(val 4294967296 ds : Nat), val 4294967296 es, v4, by simpa [Nat.Coprime] using v5⟩, negB_neg (by show ¬ (((val 4294967296 ds : Nat) : Int) < 0); omega), ⟨by simpa using b1, b2⟩, by simpa using n1, n2⟩
  | true =>
    have h0 : val 4294967296 ds ≠ 0 := fun e => v2 rfl (c1.eq_nil (by decide) e)
    refine ⟨⟨-((val 4294967296 ds : Nat) : Int), val 4294967296 es, v4, by simpa [Nat.Coprime] using v5⟩, negB_pos (by show -((val 4294967296 ds : Nat) : Int) < 0; omega), ⟨by simpa using b1, b2⟩, by simpa using n1, n2⟩

theorem rat_eq {x y : Rat} : x = y ↔ x.num = y.num ∧ x.den = y.den := ⟨fun h => by rw [h]; exact ⟨rfl, rfl⟩, fun h => Rat.ext h.1 h.2⟩

set_option maxRecDepth 100000 in
set_option maxHeartbeats 2000000 in
theorem same_any {va vb : Value} {x y : Rat} {w : World} (ha : IsRat w va x) (hb : IsRat w vb y) (hx : x.num.natAbs < maxN ∧ x.den < maxN) (hy : y.num.natAbs < maxN ∧ y.den < maxN) {r : Bool} (hr : decide (x = y) = r) :
    Calls Tryz.prog 8 #[va, vb] w fun e w' => e = .returned (.bool r) ∧ Below w.heap.size w w' := by
  obtain ⟨b1, p1, l1, K1, q1, j1, J1, rfl, hb1, n1, d1⟩ := ha
  obtain ⟨b2, p2, l2, K2, q2, j2, J2, rfl, hb2, n2, d2⟩ := hb
  have HX := Lib.hid (And.intro hx hy)
  by_cases hnum : x.num = y.num
  · obtain ⟨c, hc⟩ : ∃ c, cmpI (x.den : Int) (y.den : Int) = c := ⟨_, rfl⟩
    have hcr : (c == 0) = r := by
      rw [← hc, ← hr, Bool.eq_iff_iff, beq_iff_eq, decide_eq_true_iff, rat_eq]
      unfold cmpI
      constructor
      · intro h
        refine ⟨hnum, ?_⟩
        split at h
        · omega
        · split at h
          · omega
          · omega
      · intro h
        rw [h.2, if_neg (by omega), if_neg (by omega)]
    have HC := Lib.hid hc
    have HS := Lib.hid (show (cmpI x.num y.num == 0) = true by rw [hnum]; unfold cmpI; simp)
    clear hx hy hr hnum hc
    have S := ((St.start w).alloc 27 [.bool b1, .slice p1 l1 K1, .slice q1 j1 J1] (w.heap.size)).alloc 27 [.bool b2, .slice p2 l2 K2, .slice q2 j2 J2] (w.heap.size + 1)
    replace n1 := n1.hold S.hold
    replace d1 := d1.hold S.hold
    replace n2 := n2.hold S.hold
    replace d2 := d2.hold S.hold
    have c0_0 := S.c 0 0 rfl rfl
    have c0_1 := S.c 0 1 rfl rfl
    have c0_2 := S.c 0 2 rfl rfl
    have c1_0 := S.c 1 0 rfl rfl
    have c1_1 := S.c 1 1 rfl rfl
    have c1_2 := S.c 1 2 rfl rfl
    go_enter Tryz.func8, Tryz.ntmps8
    go_wp2_with fail
    clear c0_0 c0_1 c0_2 c1_0 c1_1 c1_2
    refine (S.call (wsame_any ⟨_, _, _, by rw [hb1.out], n1⟩ ⟨_, _, _, by rw [hb2.out], n2⟩ HX.out.1.1 HX.out.2.1 HS.out)).mono ?_
    clear S
    rintro e w1 ⟨rfl, S, H⟩
    replace n1 := n1.hold H
    replace d1 := d1.hold H
    replace n2 := n2.hold H
    replace d2 := d2.hold H
    clear H
    have c0_0 := S.c 0 0 rfl rfl
    have c0_1 := S.c 0 1 rfl rfl
    have c0_2 := S.c 0 2 rfl rfl
    have c1_0 := S.c 1 0 rfl rfl
    have c1_1 := S.c 1 1 rfl rfl
    have c1_2 := S.c 1 2 rfl rfl
    go_wp2_with fail
    clear c0_0 c0_1 c0_2 c1_0 c1_1 c1_2
    refine (S.call (compare_nat d1 d2 HX.out.1.2 HX.out.2.2 HC.out)).mono ?_
    clear S
    rintro e w2 ⟨rfl, S, H⟩
    replace n1 := n1.hold H
    replace d1 := d1.hold H
    replace n2 := n2.hold H
    replace d2 := d2.hold H
    clear H
    have c0_0 := S.c 0 0 rfl rfl
    have c0_1 := S.c 0 1 rfl rfl
    have c0_2 := S.c 0 2 rfl rfl
    have c1_0 := S.c 1 0 rfl rfl
    have c1_1 := S.c 1 1 rfl rfl
    have c1_2 := S.c 1 2 rfl rfl
    go_wp2_with fail
    exact bodyPost_ret (v := .bool r) (by simp [results, Tryz.f8, go_sem]) rfl (⟨rfl, S.below⟩)
  · obtain rfl : r = false := by rw [← hr]; exact decide_eq_false fun h => hnum (by rw [h])
    have HS := Lib.hid (show (cmpI x.num y.num == 0) = false by
      rw [beq_eq_false_iff_ne]
      unfold cmpI
      split
      · omega
      · split
        · omega
        · omega)
    clear hx hy hr hnum
    have S := ((St.start w).alloc 27 [.bool b1, .slice p1 l1 K1, .slice q1 j1 J1] (w.heap.size)).alloc 27 [.bool b2, .slice p2 l2 K2, .slice q2 j2 J2] (w.heap.size + 1)
    replace n1 := n1.hold S.hold
    replace d1 := d1.hold S.hold
    replace n2 := n2.hold S.hold
    replace d2 := d2.hold S.hold
    have c0_0 := S.c 0 0 rfl rfl
    have c0_1 := S.c 0 1 rfl rfl
    have c0_2 := S.c 0 2 rfl rfl
    have c1_0 := S.c 1 0 rfl rfl
    have c1_1 := S.c 1 1 rfl rfl
    have c1_2 := S.c 1 2 rfl rfl
    go_enter Tryz.func8, Tryz.ntmps8
    go_wp2_with fail
    clear c0_0 c0_1 c0_2 c1_0 c1_1 c1_2
    refine (S.call (wsame_any ⟨_, _, _, by rw [hb1.out], n1⟩ ⟨_, _, _, by rw [hb2.out], n2⟩ HX.out.1.1 HX.out.2.1 HS.out)).mono ?_
    clear S
    rintro e w1 ⟨rfl, S, H⟩
    replace n1 := n1.hold H
    replace d1 := d1.hold H
    replace n2 := n2.hold H
    replace d2 := d2.hold H
    clear H
    have c0_0 := S.c 0 0 rfl rfl
    have c0_1 := S.c 0 1 rfl rfl
    have c0_2 := S.c 0 2 rfl rfl
    have c1_0 := S.c 1 0 rfl rfl
    have c1_1 := S.c 1 1 rfl rfl
    have c1_2 := S.c 1 2 rfl rfl
    go_wp2_with fail
    exact bodyPost_ret (v := .bool false) (by simp [results, Tryz.f8, go_sem]) rfl (⟨rfl, S.below⟩)

/-- The first k of some ratios together. -/
def sumR (Z : Nat → Rat) : Nat → Rat
  | 0 => 0
  | k + 1 => sumR Z k + Z k
theorem rb_zero : RB 0 1 := ⟨by show Int.natAbs 0 < _; exact NB_pos 1, by show 1 < NB 1; rw [NB_one]; decide⟩
theorem rb_sum {Z : Nat → Rat} {n c : Nat} (h : ∀ j, j < n → RB (Z j) c) : ∀ j, j ≤ n → RB (sumR Z j) ((c + 1) * j + 1)
  | 0, _ => rb_zero
  | j + 1, hj => by
    have h1 := rb_add (rb_sum h j (by omega)) (h j (by omega))
    exact h1.mono (by rw [Nat.mul_add]; omega)
/-- In block g there stand n ratios. -/
def RatsAt (w : World) (g n : Nat) (B : Nat → Bool) (P P' : Nat → Option Addr) (l l' K K' : Nat → Nat) (Z : Nat → Rat) : Prop :=
  g < w.heap.size ∧ ∀ j, j < n → w.cell? ⟨g, j * 3, none⟩ = some (.bool (B j)) ∧ w.cell? ⟨g, j * 3 + 1, none⟩ = some (.slice (P j) (l j) (K j)) ∧ w.cell? ⟨g, j * 3 + 2, none⟩ = some (.slice (P' j) (l' j) (K' j)) ∧ negB (Z j).num = B j ∧ IsNat w (.slice (P j) (l j) (K j)) (Z j).num.natAbs ∧ IsNat w (.slice (P' j) (l' j) (K' j)) (Z j).den

set_option maxRecDepth 100000 in
set_option maxHeartbeats 2000000 in
theorem rsum_any (g n : Nat) (B : Nat → Bool) (P P' : Nat → Option Addr) (l l' K K' : Nat → Nat) (Z : Nat → Rat) (w : World) (h : RatsAt w g n B P P' l l' K K' Z) (c : Nat) (hZ : ∀ j, j < n → RB (Z j) c) (hn : n ≤ 100) (hc : (c + 1) * n + 1 + c ≤ 511) :
    Calls Tryz.prog 22 #[.slice (some ⟨g, 0, none⟩) n n] w fun e w' => (∃ u, e = .returned (.tuple #[u, .int .i64 0]) ∧ IsRat w' u (sumR Z n)) ∧ Below w.heap.size w w' := by
  have HZ := Lib.hid (And.intro hZ (And.intro (rb_sum hZ) hc))
  have HI := Lib.hid h
  clear hZ hc h
  have S := (St.start w).alloc 27 [.bool false, .slice none 0 0, .slice none 0 0] (w.heap.size)
  have c0_0 := S.c 0 0 rfl rfl
  have c0_1 := S.c 0 1 rfl rfl
  have c0_2 := S.c 0 2 rfl rfl
  go_enter Tryz.func22, Tryz.ntmps22
  go_wp2_with fail
  clear c0_0 c0_1 c0_2
  refine (S.call (rzero_any _)).mono ?_
  clear S
  rintro e w1 ⟨⟨_, rfl, bz, pz, lz, Kz, qz, jz, Jz, rfl, hbz, nz, dz⟩, S, H⟩
  clear H
  have c0_0 := S.c 0 0 rfl rfl
  have c0_1 := S.c 0 1 rfl rfl
  have c0_2 := S.c 0 2 rfl rfl
  have H := S.hnew 27 [.bool bz, .slice pz lz Kz, .slice qz jz Jz]
  replace S := S.alloc 27 [.bool bz, .slice pz lz Kz, .slice qz jz Jz] (w1.heap.size)
  replace nz := nz.hold H
  replace dz := dz.hold H
  clear H
  go_wp2_with fail
  clear c0_0 c0_1 c0_2
  go_loopw [11] (fun si wr => ∃ k : Nat, k ≤ n ∧ si = .int .i64 k ∧ ∃ b p l1 K1 q j J, Hid (negB (sumR Z k).num = b) ∧ IsNat wr (.slice p l1 K1) (sumR Z k).num.natAbs ∧ IsNat wr (.slice q j J) (sumR Z k).den ∧ St w wr [(w.heap.size, 27, [.bool false, .slice none 0 0, .slice none 0 0]), (w1.heap.size, 27, [.bool b, .slice p l1 K1, .slice q j J])]) (fun si _ => n - (intOf si).toNat)
  case atStart => exact ⟨0, by omega, rfl, _, _, _, _, _, _, _, hbz, nz, dz, S⟩
  case round =>
    clear nz dz S
    obtain ⟨k, hk, rfl, b, p, l1, K1, q, j, J, hb, nn, dd, S⟩ := hrel
    by_cases hlt : k < n
    · have hI := HI.out.2 k hlt
      have hgb := HI.out.1
      have a0 := (S.below.cell (p := ⟨g, k * 3, none⟩) hgb).trans hI.1
      have a1 := (S.below.cell (p := ⟨g, k * 3 + 1, none⟩) hgb).trans hI.2.1
      have a2 := (S.below.cell (p := ⟨g, k * 3 + 2, none⟩) hgb).trans hI.2.2.1
      have na := hI.2.2.2.2.1.below S.below (Nat.le_refl _)
      have da := hI.2.2.2.2.2.below S.below (Nat.le_refl _)
      have HBk := Lib.hid hI.2.2.2.1
      have HL := Lib.hid hlt
      have hki : (k : Int) < ((n : Nat) : Int) := by omega
      clear hI hgb hlt
      have H := S.hnew 27 [.bool (B k), .slice (P k) (l k) (K k), .slice (P' k) (l' k) (K' k)]
      replace S := S.alloc 27 [.bool (B k), .slice (P k) (l k) (K k), .slice (P' k) (l' k) (K' k)] (wr.heap.size)
      replace nn := nn.hold H
      replace dd := dd.hold H
      replace na := na.hold H
      replace da := da.hold H
      clear H
      have c0_0 := S.c 0 0 rfl rfl
      have c0_1 := S.c 0 1 rfl rfl
      have c0_2 := S.c 0 2 rfl rfl
      have c1_0 := S.c 1 0 rfl rfl
      have c1_1 := S.c 1 1 rfl rfl
      have c1_2 := S.c 1 2 rfl rfl
      have c2_0 := S.c 2 0 rfl rfl
      have c2_1 := S.c 2 1 rfl rfl
      have c2_2 := S.c 2 2 rfl rfl
      go_wp2_with fail
      clear c0_0 c0_1 c0_2 c1_0 c1_1 c1_2 c2_0 c2_1 c2_2
      refine (S.call (radd_any ⟨b, p, l1, K1, q, j, J, rfl, hb, nn, dd⟩ ⟨B k, P k, l k, K k, P' k, l' k, K' k, rfl, HBk.out, na, da⟩ (HZ.out.2.1 k hk) (HZ.out.1 k HL.out) (by have := HZ.out.2.2; have := Nat.mul_le_mul_left (c + 1) hk; omega) (sumR Z (k + 1)) rfl)).mono ?_
      clear S
      rintro e w21 ⟨⟨_, rfl, b2, p2, l2, K2, q2, j2, J2, rfl, hb2, n2, d2⟩, S, H⟩
      replace nn := nn.hold H
      replace dd := dd.hold H
      replace na := na.hold H
      replace da := da.hold H
      clear H
      have c0_0 := S.c 0 0 rfl rfl
      have c0_1 := S.c 0 1 rfl rfl
      have c0_2 := S.c 0 2 rfl rfl
      have c1_0 := S.c 1 0 rfl rfl
      have c1_1 := S.c 1 1 rfl rfl
      have c1_2 := S.c 1 2 rfl rfl
      have c2_0 := S.c 2 0 rfl rfl
      have c2_1 := S.c 2 1 rfl rfl
      have c2_2 := S.c 2 2 rfl rfl
      have f1_0 := S.f 1 0 rfl
      have H := S.hset 1 0 (.bool b2) rfl rfl (by intro q n e; cases e)
      replace S := S.set 1 0 (.bool b2) rfl
      replace nn := nn.hold H
      replace dd := dd.hold H
      replace na := na.hold H
      replace da := da.hold H
      replace n2 := n2.hold H
      replace d2 := d2.hold H
      clear H
      have f1_1 := S.f 1 1 rfl
      have H := S.hset 1 1 (.slice p2 l2 K2) rfl rfl (by intro q n e; cases e)
      replace S := S.set 1 1 (.slice p2 l2 K2) rfl
      replace nn := nn.hold H
      replace dd := dd.hold H
      replace na := na.hold H
      replace da := da.hold H
      replace n2 := n2.hold H
      replace d2 := d2.hold H
      clear H
      have f1_2 := S.f 1 2 rfl
      have H := S.hset 1 2 (.slice q2 j2 J2) rfl rfl (by intro q n e; cases e)
      replace S := S.set 1 2 (.slice q2 j2 J2) rfl
      replace nn := nn.hold H
      replace dd := dd.hold H
      replace na := na.hold H
      replace da := da.hold H
      replace n2 := n2.hold H
      replace d2 := d2.hold H
      clear H
      go_wp2_with fail
      replace S := S.take 2 (L := [(w.heap.size, 27, [.bool false, .slice none 0 0, .slice none 0 0]), (w1.heap.size, 27, [.bool b2, .slice p2 l2 K2, .slice q2 j2 J2])]) rfl
      go_roundw
      case rel => exact ⟨k + 1, HL.out, by go_num, _, _, _, _, _, _, _, hb2, n2, d2, S⟩
      case measure => have := HL.out; simp [intOf]; omega
    · have hki : ¬ (k : Int) < ((n : Nat) : Int) := by omega
      have HK := Lib.hid (show k = n by omega)
      clear hlt
      have c0_0 := S.c 0 0 rfl rfl
      have c0_1 := S.c 0 1 rfl rfl
      have c0_2 := S.c 0 2 rfl rfl
      have c1_0 := S.c 1 0 rfl rfl
      have c1_1 := S.c 1 1 rfl rfl
      have c1_2 := S.c 1 2 rfl rfl
      have f0_0 := S.f 0 0 rfl
      have H := S.hset 0 0 (.bool b) rfl rfl (by intro q n e; cases e)
      replace S := S.set 0 0 (.bool b) rfl
      replace nn := nn.hold H
      replace dd := dd.hold H
      clear H
      have f0_1 := S.f 0 1 rfl
      have H := S.hset 0 1 (.slice p l1 K1) rfl rfl (by intro q n e; cases e)
      replace S := S.set 0 1 (.slice p l1 K1) rfl
      replace nn := nn.hold H
      replace dd := dd.hold H
      clear H
      have f0_2 := S.f 0 2 rfl
      have H := S.hset 0 2 (.slice q j J) rfl rfl (by intro q n e; cases e)
      replace S := S.set 0 2 (.slice q j J) rfl
      replace nn := nn.hold H
      replace dd := dd.hold H
      clear H
      go_wp2_with fail
      have d0_0 := S.c 0 0 rfl rfl
      have d0_1 := S.c 0 1 rfl rfl
      have d0_2 := S.c 0 2 rfl rfl
      exact bodyPost_ret (v := .tuple #[.agg #[.bool b, .slice p l1 K1, .slice q j J], .int .i64 0]) (by simp [results, Tryz.f22, go_sem, d0_0, d0_1, d0_2]) rfl (⟨⟨_, rfl, by rw [← HK.out]; exact ⟨b, p, l1, K1, q, j, J, rfl, hb, nn, dd⟩⟩, S.below⟩)

end Go.Proofs.YtggnjlbnfgjgdaaGreat

namespace Go.Proofs.YtggnjlbnfgjgdaaGreat
open Go.RowKit

section
variable {w W : World} {L : List (Nat × TypeId × List Value)} {b : Nat} {t : TypeId} {b0 b1 b2 : Bool} {p0 p1 p2 q0 q1 q2 : Option Addr} {l0 l1 l2 m0 m1 m2 K0 K1 K2 J0 J1 J2 : Nat} {z0 z1 z2 : Rat}
theorem rats3 (S : St w W L) (i : Nat) (hi : L[i]? = some (b, t, [.bool b0, .slice p0 l0 K0, .slice q0 m0 J0, .bool b1, .slice p1 l1 K1, .slice q1 m1 J1, .bool b2, .slice p2 l2 K2, .slice q2 m2 J2]))
    (h0 : Hid (negB z0.num = b0)) (h1 : Hid (negB z1.num = b1)) (h2 : Hid (negB z2.num = b2))
    (n0 : IsNat W (.slice p0 l0 K0) z0.num.natAbs) (d0 : IsNat W (.slice q0 m0 J0) z0.den) (n1 : IsNat W (.slice p1 l1 K1) z1.num.natAbs) (d1 : IsNat W (.slice q1 m1 J1) z1.den) (n2 : IsNat W (.slice p2 l2 K2) z2.num.natAbs) (d2 : IsNat W (.slice q2 m2 J2) z2.den) :
    RatsAt W b 3 (fun j => [b0, b1, b2].getD j false) (fun j => [p0, p1, p2].getD j none) (fun j => [q0, q1, q2].getD j none) (fun j => [l0, l1, l2].getD j 0) (fun j => [m0, m1, m2].getD j 0) (fun j => [K0, K1, K2].getD j 0) (fun j => [J0, J1, J2].getD j 0) (fun j => [z0, z1, z2].getD j 0) := by
  refine ⟨S.lt i hi, fun j hj => ?_⟩
  match j, hj with
  | 0, _ => exact ⟨S.c i 0 hi rfl, S.c i 1 hi rfl, S.c i 2 hi rfl, h0.out, n0, d0⟩
  | 1, _ => exact ⟨S.c i 3 hi rfl, S.c i 4 hi rfl, S.c i 5 hi rfl, h1.out, n1, d1⟩
  | 2, _ => exact ⟨S.c i 6 hi rfl, S.c i 7 hi rfl, S.c i 8 hi rfl, h2.out, n2, d2⟩
theorem rraws3 (S : St w W L) (i : Nat) {ds0 es0 ds1 es1 ds2 es2 : List Nat} (hi : L[i]? = some (b, t, [.bool b0, .slice p0 l0 K0, .slice q0 m0 J0, .bool b1, .slice p1 l1 K1, .slice q1 m1 J1, .bool b2, .slice p2 l2 K2, .slice q2 m2 J2])) (e0 : ds0.length = l0) (f0 : es0.length = m0) (e1 : ds1.length = l1) (f1 : es1.length = m1) (e2 : ds2.length = l2) (f2 : es2.length = m2)
    (a0 : At .u32 W p0 K0 ds0) (c0 : At .u32 W q0 J0 es0) (a1 : At .u32 W p1 K1 ds1) (c1 : At .u32 W q1 J1 es1) (a2 : At .u32 W p2 K2 ds2) (c2 : At .u32 W q2 J2 es2) (d0 : Dig 4294967296 ds0) (g0 : Dig 4294967296 es0) (d1 : Dig 4294967296 ds1) (g1 : Dig 4294967296 es1) (d2 : Dig 4294967296 ds2) (g2 : Dig 4294967296 es2) :
    ∀ j, j < 3 → W.cell? ⟨b, j * 3, none⟩ = some (.bool ([b0, b1, b2].getD j false)) ∧ W.cell? ⟨b, j * 3 + 1, none⟩ = some (.slice ([p0, p1, p2].getD j none) ([ds0, ds1, ds2].getD j []).length ([K0, K1, K2].getD j 0)) ∧ W.cell? ⟨b, j * 3 + 2, none⟩ = some (.slice ([q0, q1, q2].getD j none) ([es0, es1, es2].getD j []).length ([J0, J1, J2].getD j 0)) ∧ At .u32 W ([p0, p1, p2].getD j none) ([K0, K1, K2].getD j 0) ([ds0, ds1, ds2].getD j []) ∧ At .u32 W ([q0, q1, q2].getD j none) ([J0, J1, J2].getD j 0) ([es0, es1, es2].getD j []) ∧ Dig 4294967296 ([ds0, ds1, ds2].getD j []) ∧ Dig 4294967296 ([es0, es1, es2].getD j []) := by
  subst e0; subst f0; subst e1; subst f1; subst e2; subst f2
  intro j hj
  match j, hj with
  | 0, _ => exact ⟨S.c i 0 hi rfl, S.c i 1 hi rfl, S.c i 2 hi rfl, a0, c0, d0, g0⟩
  | 1, _ => exact ⟨S.c i 3 hi rfl, S.c i 4 hi rfl, S.c i 5 hi rfl, a1, c1, d1, g1⟩
  | 2, _ => exact ⟨S.c i 6 hi rfl, S.c i 7 hi rfl, S.c i 8 hi rfl, a2, c2, d2, g2⟩
theorem rraws2 (S : St w W L) (i : Nat) {ds0 es0 ds1 es1 : List Nat} (hi : L[i]? = some (b, t, [.bool b0, .slice p0 l0 K0, .slice q0 m0 J0, .bool b1, .slice p1 l1 K1, .slice q1 m1 J1])) (e0 : ds0.length = l0) (f0 : es0.length = m0) (e1 : ds1.length = l1) (f1 : es1.length = m1)
    (a0 : At .u32 W p0 K0 ds0) (c0 : At .u32 W q0 J0 es0) (a1 : At .u32 W p1 K1 ds1) (c1 : At .u32 W q1 J1 es1) (d0 : Dig 4294967296 ds0) (g0 : Dig 4294967296 es0) (d1 : Dig 4294967296 ds1) (g1 : Dig 4294967296 es1) :
    ∀ j, j < 2 → W.cell? ⟨b, j * 3, none⟩ = some (.bool ([b0, b1].getD j false)) ∧ W.cell? ⟨b, j * 3 + 1, none⟩ = some (.slice ([p0, p1].getD j none) ([ds0, ds1].getD j []).length ([K0, K1].getD j 0)) ∧ W.cell? ⟨b, j * 3 + 2, none⟩ = some (.slice ([q0, q1].getD j none) ([es0, es1].getD j []).length ([J0, J1].getD j 0)) ∧ At .u32 W ([p0, p1].getD j none) ([K0, K1].getD j 0) ([ds0, ds1].getD j []) ∧ At .u32 W ([q0, q1].getD j none) ([J0, J1].getD j 0) ([es0, es1].getD j []) ∧ Dig 4294967296 ([ds0, ds1].getD j []) ∧ Dig 4294967296 ([es0, es1].getD j []) := by
  subst e0; subst f0; subst e1; subst f1
  intro j hj
  match j, hj with
  | 0, _ => exact ⟨S.c i 0 hi rfl, S.c i 1 hi rfl, S.c i 2 hi rfl, a0, c0, d0, g0⟩
  | 1, _ => exact ⟨S.c i 3 hi rfl, S.c i 4 hi rfl, S.c i 5 hi rfl, a1, c1, d1, g1⟩
theorem rraws1 (S : St w W L) (i : Nat) {ds0 es0 : List Nat} (hi : L[i]? = some (b, t, [.bool b0, .slice p0 l0 K0, .slice q0 m0 J0])) (e0 : ds0.length = l0) (f0 : es0.length = m0)
    (a0 : At .u32 W p0 K0 ds0) (c0 : At .u32 W q0 J0 es0) (d0 : Dig 4294967296 ds0) (g0 : Dig 4294967296 es0) :
    ∀ j, j < 1 → W.cell? ⟨b, j * 3, none⟩ = some (.bool ([b0].getD j false)) ∧ W.cell? ⟨b, j * 3 + 1, none⟩ = some (.slice ([p0].getD j none) ([ds0].getD j []).length ([K0].getD j 0)) ∧ W.cell? ⟨b, j * 3 + 2, none⟩ = some (.slice ([q0].getD j none) ([es0].getD j []).length ([J0].getD j 0)) ∧ At .u32 W ([p0].getD j none) ([K0].getD j 0) ([ds0].getD j []) ∧ At .u32 W ([q0].getD j none) ([J0].getD j 0) ([es0].getD j []) ∧ Dig 4294967296 ([ds0].getD j []) ∧ Dig 4294967296 ([es0].getD j []) := by
  subst e0; subst f0
  intro j hj
  match j, hj with
  | 0, _ => exact ⟨S.c i 0 hi rfl, S.c i 1 hi rfl, S.c i 2 hi rfl, a0, c0, d0, g0⟩
end
theorem rsum3 {g : Nat} {B : Nat → Bool} {P P' : Nat → Option Addr} {l l' K K' : Nat → Nat} {w : World} {z0 z1 z2 : Rat} (h : RatsAt w g 3 B P P' l l' K K' (fun j => [z0, z1, z2].getD j 0)) (c : Nat) (h0 : RB z0 c) (h1 : RB z1 c) (h2 : RB z2 c) (hc : 4 * c ≤ 507) (z : Rat) (hz : z0 + z1 + z2 = z) :
    Calls Tryz.prog 22 #[.slice (some ⟨g, 0, none⟩) 3 3] w fun e w' => (∃ u, e = .returned (.tuple #[u, .int .i64 0]) ∧ IsRat w' u z) ∧ Below w.heap.size w w' := by
  have e : sumR (fun j => [z0, z1, z2].getD j 0) 3 = z := by subst hz; show 0 + z0 + z1 + z2 = _; rw [Rat.zero_add]
  have := rsum_any g 3 B P P' l l' K K' _ w h c (fun j hj => by
    match j, hj with
    | 0, _ => exact h0
    | 1, _ => exact h1
    | 2, _ => exact h2) (by decide) (by omega)
  rwa [e] at this

end Go.Proofs.YtggnjlbnfgjgdaaGreat

namespace Go.Proofs.YtggnjlbnfgjgdaaGreat
open Go.RowKit

set_option maxRecDepth 100000 in
set_option maxHeartbeats 2000000 in
theorem rmake_zero {va vb : Value} {n : Int} {w : World} (ha : IsInt w va n) (hb : IsInt w vb 0) :
    Calls Tryz.prog 51 #[va, vb] w fun e w' => (∃ u, e = .returned (.tuple #[u, .int .i64 10]) ∧ IsRat w' u 0) ∧ Below w.heap.size w w' := by
  obtain ⟨p1, l1, K1, rfl, n1⟩ := ha
  obtain ⟨p2, l2, K2, rfl, n2⟩ := hb
  obtain ⟨b1, hb1⟩ : ∃ b1, negB n = b1 := ⟨_, rfl⟩
  rw [hb1]
  obtain ⟨z, hz⟩ : ∃ z : Int, z = 0 := ⟨_, rfl⟩
  rw [← hz] at n2 ⊢
  have HZ := Lib.hid hz
  have hz0 : (z.sign) = (0 : Int) := by rw [hz]; rfl
  have HS := Lib.hid hz0
  clear hb1 hz hz0
  have S := (((St.start w).alloc 25 [.bool b1, .slice p1 l1 K1] (w.heap.size)).alloc 25 [.bool (negB z), .slice p2 l2 K2] (w.heap.size + 1)).alloc 27 [.bool false, .slice none 0 0, .slice none 0 0] (w.heap.size + 1 + 1)
  replace n1 := n1.hold S.hold
  replace n2 := n2.hold S.hold
  have c0_0 := S.c 0 0 rfl rfl
  have c0_1 := S.c 0 1 rfl rfl
  have c1_0 := S.c 1 0 rfl rfl
  have c1_1 := S.c 1 1 rfl rfl
  have c2_0 := S.c 2 0 rfl rfl
  have c2_1 := S.c 2 1 rfl rfl
  have c2_2 := S.c 2 2 rfl rfl
  go_enter Tryz.func51, Tryz.ntmps51
  go_wp2_with fail
  clear c0_0 c0_1 c1_0 c1_1 c2_0 c2_1 c2_2
  refine (S.call (wsign_any ⟨_, _, _, rfl, n2⟩ (by rw [HZ.out]; exact lt_maxN (by decide)) HS.out)).mono ?_
  clear S
  rintro e w1 ⟨rfl, S, H⟩
  replace n1 := n1.hold H
  replace n2 := n2.hold H
  clear H
  have c0_0 := S.c 0 0 rfl rfl
  have c0_1 := S.c 0 1 rfl rfl
  have c1_0 := S.c 1 0 rfl rfl
  have c1_1 := S.c 1 1 rfl rfl
  have c2_0 := S.c 2 0 rfl rfl
  have c2_1 := S.c 2 1 rfl rfl
  have c2_2 := S.c 2 2 rfl rfl
  go_wp2_with fail
  clear c0_0 c0_1 c1_0 c1_1 c2_0 c2_1 c2_2
  refine (S.call (rzero_any _)).mono ?_
  clear S
  rintro e w2 ⟨⟨_, rfl, bz, pz, lz, Kz, qz, jz, Jz, rfl, hbz, nz, dz⟩, S, H⟩
  replace n1 := n1.hold H
  replace n2 := n2.hold H
  clear H
  have c0_0 := S.c 0 0 rfl rfl
  have c0_1 := S.c 0 1 rfl rfl
  have c1_0 := S.c 1 0 rfl rfl
  have c1_1 := S.c 1 1 rfl rfl
  have c2_0 := S.c 2 0 rfl rfl
  have c2_1 := S.c 2 1 rfl rfl
  have c2_2 := S.c 2 2 rfl rfl
  have f2_0 := S.f 2 0 rfl
  have H := S.hset 2 0 (.bool bz) rfl rfl (by intro q n e; cases e)
  replace S := S.set 2 0 (.bool bz) rfl
  replace n1 := n1.hold H
  replace n2 := n2.hold H
  replace nz := nz.hold H
  replace dz := dz.hold H
  clear H
  have f2_1 := S.f 2 1 rfl
  have H := S.hset 2 1 (.slice pz lz Kz) rfl rfl (by intro q n e; cases e)
  replace S := S.set 2 1 (.slice pz lz Kz) rfl
  replace n1 := n1.hold H
  replace n2 := n2.hold H
  replace nz := nz.hold H
  replace dz := dz.hold H
  clear H
  have f2_2 := S.f 2 2 rfl
  have H := S.hset 2 2 (.slice qz jz Jz) rfl rfl (by intro q n e; cases e)
  replace S := S.set 2 2 (.slice qz jz Jz) rfl
  replace n1 := n1.hold H
  replace n2 := n2.hold H
  replace nz := nz.hold H
  replace dz := dz.hold H
  clear H
  go_wp2_with fail
  have d2_0 := S.c 2 0 rfl rfl
  have d2_1 := S.c 2 1 rfl rfl
  have d2_2 := S.c 2 2 rfl rfl
  exact bodyPost_ret (v := .tuple #[.agg #[.bool bz, .slice pz lz Kz, .slice qz jz Jz], .int .i64 10]) (by simp [results, Tryz.f51, go_sem, d2_0, d2_1, d2_2]) rfl (⟨⟨_, rfl, bz, pz, lz, Kz, qz, jz, Jz, rfl, hbz, nz, dz⟩, S.below⟩)

set_option maxRecDepth 100000 in
set_option maxHeartbeats 2000000 in
theorem rdiv_zero {va vb : Value} {x : Rat} {w : World} (ha : IsRat w va x) (hb : IsRat w vb 0) :
    Calls Tryz.prog 21 #[va, vb] w fun e w' => (∃ u, e = .returned (.tuple #[u, .int .i64 10]) ∧ IsRat w' u 0) ∧ Below w.heap.size w w' := by
  obtain ⟨b1, p1, l1, K1, q1, j1, J1, rfl, hb1, n1, d1⟩ := ha
  obtain ⟨b2, p2, l2, K2, q2, j2, J2, rfl, hb2, n2, d2⟩ := hb
  clear hb1
  have S := (((St.start w).alloc 27 [.bool b1, .slice p1 l1 K1, .slice q1 j1 J1] (w.heap.size)).alloc 27 [.bool b2, .slice p2 l2 K2, .slice q2 j2 J2] (w.heap.size + 1)).alloc 27 [.bool false, .slice none 0 0, .slice none 0 0] (w.heap.size + 1 + 1)
  replace n1 := n1.hold S.hold
  replace d1 := d1.hold S.hold
  replace n2 := n2.hold S.hold
  replace d2 := d2.hold S.hold
  have c0_0 := S.c 0 0 rfl rfl
  have c0_1 := S.c 0 1 rfl rfl
  have c0_2 := S.c 0 2 rfl rfl
  have c1_0 := S.c 1 0 rfl rfl
  have c1_1 := S.c 1 1 rfl rfl
  have c1_2 := S.c 1 2 rfl rfl
  have c2_0 := S.c 2 0 rfl rfl
  have c2_1 := S.c 2 1 rfl rfl
  have c2_2 := S.c 2 2 rfl rfl
  go_enter Tryz.func21, Tryz.ntmps21
  go_wp2_with fail
  clear c0_0 c0_1 c0_2 c1_0 c1_1 c1_2 c2_0 c2_1 c2_2
  refine (S.call (rsign_any (x := 0) (s := 0) ⟨b2, p2, l2, K2, q2, j2, J2, rfl, hb2, n2, d2⟩ (lt_maxN (by decide)) rfl)).mono ?_
  clear S
  rintro e w1 ⟨rfl, S, H⟩
  replace n1 := n1.hold H
  replace d1 := d1.hold H
  replace n2 := n2.hold H
  replace d2 := d2.hold H
  clear H
  have c0_0 := S.c 0 0 rfl rfl
  have c0_1 := S.c 0 1 rfl rfl
  have c0_2 := S.c 0 2 rfl rfl
  have c1_0 := S.c 1 0 rfl rfl
  have c1_1 := S.c 1 1 rfl rfl
  have c1_2 := S.c 1 2 rfl rfl
  have c2_0 := S.c 2 0 rfl rfl
  have c2_1 := S.c 2 1 rfl rfl
  have c2_2 := S.c 2 2 rfl rfl
  go_wp2_with fail
  clear c0_0 c0_1 c0_2 c1_0 c1_1 c1_2 c2_0 c2_1 c2_2
  refine (S.call (rzero_any _)).mono ?_
  clear S
  rintro e w2 ⟨⟨_, rfl, bz, pz, lz, Kz, qz, jz, Jz, rfl, hbz, nz, dz⟩, S, H⟩
  replace n1 := n1.hold H
  replace d1 := d1.hold H
  replace n2 := n2.hold H
  replace d2 := d2.hold H
  clear H
  have c0_0 := S.c 0 0 rfl rfl
  have c0_1 := S.c 0 1 rfl rfl
  have c0_2 := S.c 0 2 rfl rfl
  have c1_0 := S.c 1 0 rfl rfl
  have c1_1 := S.c 1 1 rfl rfl
  have c1_2 := S.c 1 2 rfl rfl
  have c2_0 := S.c 2 0 rfl rfl
  have c2_1 := S.c 2 1 rfl rfl
  have c2_2 := S.c 2 2 rfl rfl
  have f2_0 := S.f 2 0 rfl
  have H := S.hset 2 0 (.bool bz) rfl rfl (by intro q n e; cases e)
  replace S := S.set 2 0 (.bool bz) rfl
  replace n1 := n1.hold H
  replace d1 := d1.hold H
  replace n2 := n2.hold H
  replace d2 := d2.hold H
  replace nz := nz.hold H
  replace dz := dz.hold H
  clear H
  have f2_1 := S.f 2 1 rfl
  have H := S.hset 2 1 (.slice pz lz Kz) rfl rfl (by intro q n e; cases e)
  replace S := S.set 2 1 (.slice pz lz Kz) rfl
  replace n1 := n1.hold H
  replace d1 := d1.hold H
  replace n2 := n2.hold H
  replace d2 := d2.hold H
  replace nz := nz.hold H
  replace dz := dz.hold H
  clear H
  have f2_2 := S.f 2 2 rfl
  have H := S.hset 2 2 (.slice qz jz Jz) rfl rfl (by intro q n e; cases e)
  replace S := S.set 2 2 (.slice qz jz Jz) rfl
  replace n1 := n1.hold H
  replace d1 := d1.hold H
  replace n2 := n2.hold H
  replace d2 := d2.hold H
  replace nz := nz.hold H
  replace dz := dz.hold H
  clear H
  go_wp2_with fail
  have d2_0 := S.c 2 0 rfl rfl
  have d2_1 := S.c 2 1 rfl rfl
  have d2_2 := S.c 2 2 rfl rfl
  exact bodyPost_ret (v := .tuple #[.agg #[.bool bz, .slice pz lz Kz, .slice qz jz Jz], .int .i64 10]) (by simp [results, Tryz.f21, go_sem, d2_0, d2_1, d2_2]) rfl (⟨⟨_, rfl, bz, pz, lz, Kz, qz, jz, Jz, rfl, hbz, nz, dz⟩, S.below⟩)

end Go.Proofs.YtggnjlbnfgjgdaaGreat

namespace Go.Proofs.YtggnjlbnfgjgdaaGreat
open Go.RowKit

theorem cmpR_lt {x y : Rat} (h : x < y) : cmpR x y = -1 := by
  have := (Rat.lt_iff x y).1 h
  unfold cmpR cmpI; rw [if_pos this]
theorem cmpR_gt {x y : Rat} (h : y < x) : cmpR x y = 1 := by
  have := (Rat.lt_iff y x).1 h
  unfold cmpR cmpI; rw [if_neg (by omega), if_pos this]
theorem cmpR_eq (x : Rat) : cmpR x x = 0 := by
  unfold cmpR cmpI; rw [if_neg (by omega), if_neg (by omega)]
theorem rat_three (x y : Rat) : x < y ∨ x = y ∨ y < x := by grind
theorem sgn_neg {x : Rat} (h : x < 0) : x.num.sign = -1 := by
  have := (Rat.lt_iff x 0).1 h
  simp at this
  exact Int.sign_eq_neg_one_of_neg this
theorem sgn_pos {x : Rat} (h : 0 < x) : x.num.sign = 1 := by
  have := (Rat.lt_iff 0 x).1 h
  simp at this
  exact Int.sign_eq_one_of_pos this
theorem three_ratios (x y : Rat) : ∃ (c : Int) (e : Bool), ((c = -1 ∧ e = false) ∨ (c = 0 ∧ e = true) ∨ (c = 1 ∧ e = false)) ∧ cmpR x y = c ∧ cmpR (-y) (-x) = c ∧ (x - y).num.sign = c ∧ decide (x = y) = e := by
  rcases rat_three x y with h | h | h
  · exact ⟨-1, false, .inl ⟨rfl, rfl⟩, cmpR_lt h, cmpR_lt (by grind), sgn_neg (by grind), decide_eq_false (by grind)⟩
  · subst h
    exact ⟨0, true, .inr (.inl ⟨rfl, rfl⟩), cmpR_eq x, cmpR_eq _, by rw [Rat.sub_self]; rfl, decide_eq_true rfl⟩
  · exact ⟨1, false, .inr (.inr ⟨rfl, rfl⟩), cmpR_gt h, cmpR_gt (by grind), sgn_pos (by grind), decide_eq_false (by grind)⟩
theorem abs_sgn (x : Rat) : 0 ≤ ((x.num.natAbs : Nat) : Int).sign := Int.sign_nonneg_iff.2 (by omega)

theorem divInt_cross {n d : Int} (hd : 0 < d) : (Rat.divInt n d).num * d = n * (Rat.divInt n d).den := by
  have h := Rat.num_divInt_den (Rat.divInt n d)
  have hz : ((Rat.divInt n d).den : Int) ≠ 0 := by have := (Rat.divInt n d).den_nz; omega
  exact (Rat.divInt_eq_divInt_iff hz (by omega)).1 h
theorem lt_divInt {x : Rat} {n d : Int} (hd : 0 < d) (h : x.num * d < n * x.den) : x < Rat.divInt n d := by
  rw [Rat.lt_iff]
  have hc := divInt_cross (n := n) hd
  have hp : (0 : Int) < ((Rat.divInt n d).den : Int) := by have := (Rat.divInt n d).den_nz; omega
  generalize (Rat.divInt n d).num = a at *
  generalize ((Rat.divInt n d).den : Int) = b at *
  have h1 : x.num * d * b < n * x.den * b := Int.mul_lt_mul_of_pos_right h hp
  have e1 : a * x.den * d = n * x.den * b := by rw [Int.mul_right_comm a, hc, Int.mul_right_comm n]
  have h2 : x.num * b * d < a * x.den * d := by rw [e1, Int.mul_right_comm x.num]; exact h1
  exact Int.lt_of_mul_lt_mul_right h2 (by omega)
theorem divInt_lt {x : Rat} {n d : Int} (hd : 0 < d) (h : n * x.den < x.num * d) : Rat.divInt n d < x := by
  rw [Rat.lt_iff]
  have hc := divInt_cross (n := n) hd
  have hp : (0 : Int) < ((Rat.divInt n d).den : Int) := by have := (Rat.divInt n d).den_nz; omega
  generalize (Rat.divInt n d).num = a at *
  generalize ((Rat.divInt n d).den : Int) = b at *
  have h1 : n * x.den * b < x.num * d * b := Int.mul_lt_mul_of_pos_right h hp
  have e1 : a * x.den * d = n * x.den * b := by rw [Int.mul_right_comm a, hc, Int.mul_right_comm n]
  have h2 : a * x.den * d < x.num * b * d := by rw [e1, Int.mul_right_comm x.num]; exact h1
  exact Int.lt_of_mul_lt_mul_right h2 (by omega)
/-- The ratio of both numbers above over both below lies between. -/
theorem between (x y : Rat) (h : x < y) : x < Rat.divInt (x.num + y.num) ((x.den : Int) + y.den) ∧ Rat.divInt (x.num + y.num) ((x.den : Int) + y.den) < y := by
  have h1 := (Rat.lt_iff x y).1 h
  have p1 := x.den_nz
  have p2 := y.den_nz
  refine ⟨lt_divInt (by omega) ?_, divInt_lt (by omega) ?_⟩ <;> grind
theorem between_self (x : Rat) : Rat.divInt (x.num + x.num) ((x.den : Int) + x.den) = x := by
  have p1 := x.den_nz
  conv => rhs; rw [← Rat.num_divInt_den x]
  exact (Rat.divInt_eq_divInt_iff (by omega) (by omega)).2 (by grind)
theorem three_between (x y : Rat) : ∃ c : Int, (c = -1 ∨ c = 0 ∨ c = 1) ∧ cmpR x y = c ∧ cmpR x (Rat.divInt (x.num + y.num) ((x.den : Int) + y.den)) = c ∧ cmpR (Rat.divInt (x.num + y.num) ((x.den : Int) + y.den)) y = c ∧ cmpR x ((x + y) * (1 / 2)) = c ∧ cmpR ((x + y) * (1 / 2)) y = c := by
  rcases rat_three x y with h | h | h
  · have := between x y h
    exact ⟨-1, .inl rfl, cmpR_lt h, cmpR_lt this.1, cmpR_lt this.2, cmpR_lt (by grind), cmpR_lt (by grind)⟩
  · subst h
    rw [between_self, show (x + x) * (1 / 2) = x by grind]
    exact ⟨0, .inr (.inl rfl), cmpR_eq x, cmpR_eq x, cmpR_eq x, cmpR_eq x, cmpR_eq x⟩
  · have := between y x h
    rw [Int.add_comm y.num, Int.add_comm (y.den : Int)] at this
    exact ⟨1, .inr (.inr rfl), cmpR_gt h, cmpR_gt this.2, cmpR_gt this.1, cmpR_gt (by grind), cmpR_gt (by grind)⟩
theorem ceil_one {n d : Int} (hd : 0 < d) (h : n % d ≠ 0) : -(-n / d) = n / d + 1 := by
  have := (Int.ediv_emod_unique (a := -n) (b := d) (q := -(n / d) - 1) (r := d - n % d) hd).2 ⟨by have := Int.emod_add_mul_ediv n d; grind, by have := Int.emod_lt_of_pos n hd; omega, by have := Int.emod_nonneg n (show d ≠ 0 by omega); omega⟩
  omega
theorem den_one {x : Rat} (h : x.den = 1) : x = (x.num : Rat) := Rat.ext rfl h
theorem not_whole {x : Rat} (h : x.den ≠ 1) : x.num % (x.den : Int) ≠ 0 := by
  intro e
  have h1 : (x.den : Int) ∣ x.num := Int.dvd_of_emod_eq_zero e
  have h2 : x.den ∣ x.num.natAbs := Int.ofNat_dvd_left.1 h1
  have h3 := Nat.gcd_eq_right h2
  have h4 : Nat.gcd x.num.natAbs x.den = 1 := x.reduced
  omega
theorem rounds_whole {x : Rat} (h : x.den = 1) : x.floor = x.num ∧ x.ceil = x.num := by
  rw [Rat.ceil_eq_neg_floor_neg, Rat.floor_def, Rat.floor_def, Rat.neg_num, Rat.neg_den, h]
  constructor <;> simp
theorem rounds_part {x : Rat} (h : x.den ≠ 1) : ((x.floor : Int) : Rat) < x ∧ x < ((x.ceil : Int) : Rat) ∧ x.ceil - x.floor = 1 := by
  have h1 := not_whole h
  have p := x.den_nz
  have e : x.ceil = x.floor + 1 := by
    rw [Rat.ceil_eq_neg_floor_neg, Rat.floor_def, Rat.floor_def, Rat.neg_num, Rat.neg_den]
    exact ceil_one (by omega) h1
  refine ⟨?_, by rw [e]; exact Rat.lt_floor_add_one x, by omega⟩
  have h2 := Rat.floor_le x
  have h3 : ((x.floor : Int) : Rat) ≠ x := by
    intro e2
    apply h
    rw [← e2]
    rfl
  grind

theorem cmp_same (z : Int) : (cmpI z z == 0) = true := by unfold cmpI; simp
theorem floor_nb {x : Rat} {k : Nat} (h : RB x k) : x.floor.natAbs < NB k := by
  rw [Rat.floor_def]
  exact Nat.lt_of_le_of_lt (Int.natAbs_ediv_le_natAbs _ _) h.1
theorem ceil_nb {x : Rat} {k : Nat} (h : RB x k) : x.ceil.natAbs < NB k := by
  rw [Rat.ceil_eq_neg_floor_neg, Int.natAbs_neg]
  exact floor_nb (rb_neg h)
theorem rb_whole {z : Int} {k : Nat} (h : z.natAbs < NB k) (hk : 1 ≤ k) : RB ((z : Int) : Rat) k := ⟨h, nb_mono (show 1 < NB 1 by rw [NB_one]; decide) hk⟩

end Go.Proofs.YtggnjlbnfgjgdaaGreat
