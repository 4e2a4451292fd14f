/-
  What the statement stands on.
-/
import Derived.Test.YtfnlmiajpledfaaGreatDoorM21
import Derived.Laws.IdiomStrings
namespace Go.Proofs.YtfnlmiajpledfaaGreatDoor
open Go.RowKit
theorem dq_halved (m e : Int) : dq m (e - 1) = dq m e * (1 / 2) := by
  have h : dq 1 (-1) = 1 / 2 := by decide +kernel
  rw [← h, dq_mul, Int.mul_one, ← Int.sub_eq_add_neg]
theorem ZF.half {m e : Int} {L H : Nat} (h : ZF m e L (H + 1)) : ZF m (e - 1) (L + 1) H := by
  obtain ⟨h1, h2⟩ := h
  refine ⟨by omega, ?_⟩
  rw [show e - 1 + ((L + 1 : Nat) : Int) = e + (L : Int) by omega, show H + (L + 1) = H + 1 + L by omega]
  exact h2
set_option maxRecDepth 100000 in
set_option maxHeartbeats 4000000 in
theorem smiddle_any {va : Value} {x y : Rat} {w : World} {L H : Nat} (hT : Tab w) (ha : IsSp w va x y L H) (hk : H + 1 + L ≤ 16384) (q : Rat) (hq : (x + y) * (1 / 2) = q) :
    Calls Tryz.prog 82 #[va] w fun e w' => (∃ u, e = .returned (.tuple #[u, .int .i64 0]) ∧ IsD w' u q (L + 1) H) ∧ Below w.heap.size w w' := by
  obtain ⟨b1, p1, l1, K1, m1, e1, b2, p2, l2, K2, m2, e2, rfl, h1, n1, d1, h2, n2, d2⟩ := ha
  have HK := Lib.hid (And.intro hk (And.intro hq (And.intro hT (show H + (L + 1) ≤ 16384 by omega))))
  clear hk hq hT
  have S := ((St.start w).alloc 29 [.bool b1, .slice p1 l1 K1, .int .i64 e1, .bool b2, .slice p2 l2 K2, .int .i64 e2] (w.heap.size)).alloc 27 [.bool false, .slice none 0 0, .int .i64 0] (w.heap.size + 1)
  try simp only [List.cons_append, List.nil_append] at S
  replace n1 := n1.hold S.hold; replace n2 := n2.hold S.hold
  obtain ⟨c0_0, c0_1, c0_2, c0_3, c0_4, c0_5⟩ := S.c6 0 rfl; obtain ⟨c1_0, c1_1, c1_2⟩ := S.c3 1 rfl
  go_enter Tryz.func82, Tryz.ntmps82
  go_wp2_with fail; clear c0_0 c0_1 c0_2 c0_3 c0_4 c0_5 c1_0 c1_1 c1_2
  refine (S.call (dadd_any (HK.out.2.2.1.below S.below) ⟨b1, p1, l1, K1, m1, e1, rfl, h1, n1, d1⟩ ⟨b2, p2, l2, K2, m2, e2, rfl, h2, n2, d2⟩ HK.out.1 (x + y) rfl)).mono ?_
  clear S
  rintro e w1 ⟨⟨_, rfl, b3, p3, l3, K3, m3, e3, rfl, h3, n3, d3⟩, S, H⟩
  replace n1 := n1.hold H; replace n2 := n2.hold H
  clear H; obtain ⟨c0_0, c0_1, c0_2, c0_3, c0_4, c0_5⟩ := S.c6 0 rfl; obtain ⟨c1_0, c1_1, c1_2⟩ := S.c3 1 rfl
  have hwr : IntKind.i64.wrap (e3 - 1) = e3 - 1 := by have := d3.out.exp; have := HK.out.1; exact wrap_int (by omega) (by omega)
  have H := S.hnew 27 [.bool b3, .slice p3 l3 K3, .int .i64 e3]
  replace S := S.al 27 [.bool b3, .slice p3 l3 K3, .int .i64 e3] (w1.heap.size)
  refine iv3 H n1 n2 n3 ?_; clear n1 n2 n3; intro n1 n2 n3
  clear H; clear c0_0 c0_1 c0_2 c0_3 c0_4 c0_5 c1_0 c1_1 c1_2; obtain ⟨c0_0, c0_1, c0_2, c0_3, c0_4, c0_5⟩ := S.c6 0 rfl; obtain ⟨c1_0, c1_1, c1_2⟩ := S.c3 1 rfl; obtain ⟨c2_0, c2_1, c2_2⟩ := S.c3 2 rfl; go_wp2_with fail; clear c0_0 c0_1 c0_2 c0_3 c0_4 c0_5 c1_0 c1_1 c1_2 c2_0 c2_1 c2_2
  refine (S.call (dmake_any (HK.out.2.2.1.below S.below) ⟨_, _, _, by rw [h3.out], n3⟩ d3.out.2.1.half HK.out.2.2.2 q (by rw [dq_halved, d3.out.2.2]; exact HK.out.2.1))).mono ?_
  clear S
  rintro e w2 ⟨⟨_, rfl, b4, p4, l4, K4, m4, e4, rfl, h4, n4, d4⟩, S, H⟩
  refine iv3 H n1 n2 n3 ?_; clear n1 n2 n3; intro n1 n2 n3
  clear H; obtain ⟨c0_0, c0_1, c0_2, c0_3, c0_4, c0_5⟩ := S.c6 0 rfl; obtain ⟨c1_0, c1_1, c1_2⟩ := S.c3 1 rfl; obtain ⟨c2_0, c2_1, c2_2⟩ := S.c3 2 rfl; clear c0_0 c0_1 c0_2 c0_3 c0_4 c0_5 c1_0 c1_1 c1_2 c2_0 c2_1 c2_2; obtain ⟨c1_0, c1_1, c1_2⟩ := S.c3 1 rfl
  obtain ⟨f1_0, f1_1, f1_2⟩ := S.f3 1 rfl
  have HP := S.put3 1 (.bool b4) (.slice p4 l4 K4) (.int .i64 e4) rfl rfl; have H := HP.2; replace S := HP.1; clear HP
  refine iw4 H n1 n2 n3 n4 ?_; clear n1 n2 n3 n4; intro n1 n2 n3 n4
  clear H; go_wp2_with fail; obtain ⟨d1_0, d1_1, d1_2⟩ := S.c3 1 rfl
  exact bodyPost_ret (v := .tuple #[.agg #[.bool b4, .slice p4 l4 K4, .int .i64 e4], .int .i64 0]) (by simp [results, Tryz.f82, go_sem, d1_0, d1_1, d1_2]) rfl (⟨⟨_, rfl, b4, p4, l4, K4, m4, e4, rfl, h4, n4, d4⟩, S.below⟩)
set_option maxRecDepth 100000 in
set_option maxHeartbeats 4000000 in
theorem shasr_lt_eq {va vb : Value} {x y z : Rat} {L H k1 k2 : Nat} {w : World} (ha : IsSp w va x y L H) (hb : IsRat w vb z) (hLH : H + L + 1 ≤ 16384) (hx : H + L + 1 ≤ 32 * k1) (hy : RB z k2) (hk : k1 + k2 ≤ 511) (hc : cmpR x z = -1) (hd : cmpR y z = 0) :
    Calls Tryz.prog 52 #[va, vb] w fun e w' => e = .returned (.tuple #[.bool true, .int .i64 0]) ∧ Below w.heap.size w w' := by
  obtain ⟨b1, p1, l1, K1, m1, e1, b2, p2, l2, K2, m2, e2, rfl, h1, n1, d1, h2, n2, d2⟩ := ha
  obtain ⟨bq, pq, lq, Kq, qq, jq, Jq, rfl, hbq, nq, dq1⟩ := hb
  have HK := Lib.hid (And.intro hLH (And.intro hx (And.intro hy (And.intro hk (And.intro hc hd)))))
  clear hLH hx hy hk hc hd
  have S := ((St.start w).alloc 29 [.bool b1, .slice p1 l1 K1, .int .i64 e1, .bool b2, .slice p2 l2 K2, .int .i64 e2] (w.heap.size)).alloc 34 [.bool bq, .slice pq lq Kq, .slice qq jq Jq] (w.heap.size + 1)
  try simp only [List.cons_append, List.nil_append] at S
  refine iv4 S.hold n1 n2 nq dq1 ?_; clear n1 n2 nq dq1; intro n1 n2 nq dq1
  obtain ⟨c0_0, c0_1, c0_2, c0_3, c0_4, c0_5⟩ := S.c6 0 rfl; obtain ⟨c1_0, c1_1, c1_2⟩ := S.c3 1 rfl
  go_enter Tryz.func52, Tryz.ntmps52
  go_wp2_with fail; clear c0_0 c0_1 c0_2 c0_3 c0_4 c0_5 c1_0 c1_1 c1_2
  refine (S.call (dcmp_any ⟨b1, p1, l1, K1, m1, e1, rfl, h1, n1, d1⟩ ⟨bq, pq, lq, Kq, qq, jq, Jq, rfl, hbq, nq, dq1⟩ HK.out.1 HK.out.2.1 HK.out.2.2.1 HK.out.2.2.2.1 (-1) HK.out.2.2.2.2.1)).mono ?_
  clear S
  rintro e w1 ⟨rfl, S, H⟩
  refine iv4 H n1 n2 nq dq1 ?_; clear n1 n2 nq dq1; intro n1 n2 nq dq1
  clear H; obtain ⟨c0_0, c0_1, c0_2, c0_3, c0_4, c0_5⟩ := S.c6 0 rfl; obtain ⟨c1_0, c1_1, c1_2⟩ := S.c3 1 rfl; go_wp2_with fail; clear c0_0 c0_1 c0_2 c0_3 c0_4 c0_5 c1_0 c1_1 c1_2
  refine (S.call (dcmp_any ⟨b2, p2, l2, K2, m2, e2, rfl, h2, n2, d2⟩ ⟨bq, pq, lq, Kq, qq, jq, Jq, rfl, hbq, nq, dq1⟩ HK.out.1 HK.out.2.1 HK.out.2.2.1 HK.out.2.2.2.1 (0) HK.out.2.2.2.2.2)).mono ?_
  clear S
  rintro e w2 ⟨rfl, S, H⟩
  refine iv4 H n1 n2 nq dq1 ?_; clear n1 n2 nq dq1; intro n1 n2 nq dq1
  clear H; obtain ⟨c0_0, c0_1, c0_2, c0_3, c0_4, c0_5⟩ := S.c6 0 rfl; obtain ⟨c1_0, c1_1, c1_2⟩ := S.c3 1 rfl
  have H := S.hnew 36 [.int .i64 0, .int .i64 0]
  replace S := S.al 36 [.int .i64 0, .int .i64 0] (w2.heap.size)
  refine iv4 H n1 n2 nq dq1 ?_; clear n1 n2 nq dq1; intro n1 n2 nq dq1
  clear H; go_wp2_with fail; clear c0_0 c0_1 c0_2 c0_3 c0_4 c0_5 c1_0 c1_1 c1_2
  refine (S.call (or_two S 2 rfl)).mono ?_
  clear S
  rintro e w3 ⟨rfl, S, H⟩
  refine iv4 H n1 n2 nq dq1 ?_; clear n1 n2 nq dq1; intro n1 n2 nq dq1
  clear H; obtain ⟨c0_0, c0_1, c0_2, c0_3, c0_4, c0_5⟩ := S.c6 0 rfl; obtain ⟨c1_0, c1_1, c1_2⟩ := S.c3 1 rfl; go_wp2_with fail
  exact bodyPost_ret (v := .tuple #[.bool true, .int .i64 0]) (by simp [results, Tryz.f52, go_sem]) rfl (⟨rfl, S.below⟩)
set_option maxRecDepth 100000 in
set_option maxHeartbeats 4000000 in
theorem shasr_lt_gt {va vb : Value} {x y z : Rat} {L H k1 k2 : Nat} {w : World} (ha : IsSp w va x y L H) (hb : IsRat w vb z) (hLH : H + L + 1 ≤ 16384) (hx : H + L + 1 ≤ 32 * k1) (hy : RB z k2) (hk : k1 + k2 ≤ 511) (hc : cmpR x z = -1) (hd : cmpR y z = 1) :
    Calls Tryz.prog 52 #[va, vb] w fun e w' => e = .returned (.tuple #[.bool true, .int .i64 0]) ∧ Below w.heap.size w w' := by
  obtain ⟨b1, p1, l1, K1, m1, e1, b2, p2, l2, K2, m2, e2, rfl, h1, n1, d1, h2, n2, d2⟩ := ha
  obtain ⟨bq, pq, lq, Kq, qq, jq, Jq, rfl, hbq, nq, dq1⟩ := hb
  have HK := Lib.hid (And.intro hLH (And.intro hx (And.intro hy (And.intro hk (And.intro hc hd)))))
  clear hLH hx hy hk hc hd
  have S := ((St.start w).alloc 29 [.bool b1, .slice p1 l1 K1, .int .i64 e1, .bool b2, .slice p2 l2 K2, .int .i64 e2] (w.heap.size)).alloc 34 [.bool bq, .slice pq lq Kq, .slice qq jq Jq] (w.heap.size + 1)
  try simp only [List.cons_append, List.nil_append] at S
  refine iv4 S.hold n1 n2 nq dq1 ?_; clear n1 n2 nq dq1; intro n1 n2 nq dq1
  obtain ⟨c0_0, c0_1, c0_2, c0_3, c0_4, c0_5⟩ := S.c6 0 rfl; obtain ⟨c1_0, c1_1, c1_2⟩ := S.c3 1 rfl
  go_enter Tryz.func52, Tryz.ntmps52
  go_wp2_with fail; clear c0_0 c0_1 c0_2 c0_3 c0_4 c0_5 c1_0 c1_1 c1_2
  refine (S.call (dcmp_any ⟨b1, p1, l1, K1, m1, e1, rfl, h1, n1, d1⟩ ⟨bq, pq, lq, Kq, qq, jq, Jq, rfl, hbq, nq, dq1⟩ HK.out.1 HK.out.2.1 HK.out.2.2.1 HK.out.2.2.2.1 (-1) HK.out.2.2.2.2.1)).mono ?_
  clear S
  rintro e w1 ⟨rfl, S, H⟩
  refine iv4 H n1 n2 nq dq1 ?_; clear n1 n2 nq dq1; intro n1 n2 nq dq1
  clear H; obtain ⟨c0_0, c0_1, c0_2, c0_3, c0_4, c0_5⟩ := S.c6 0 rfl; obtain ⟨c1_0, c1_1, c1_2⟩ := S.c3 1 rfl; go_wp2_with fail; clear c0_0 c0_1 c0_2 c0_3 c0_4 c0_5 c1_0 c1_1 c1_2
  refine (S.call (dcmp_any ⟨b2, p2, l2, K2, m2, e2, rfl, h2, n2, d2⟩ ⟨bq, pq, lq, Kq, qq, jq, Jq, rfl, hbq, nq, dq1⟩ HK.out.1 HK.out.2.1 HK.out.2.2.1 HK.out.2.2.2.1 (1) HK.out.2.2.2.2.2)).mono ?_
  clear S
  rintro e w2 ⟨rfl, S, H⟩
  refine iv4 H n1 n2 nq dq1 ?_; clear n1 n2 nq dq1; intro n1 n2 nq dq1
  clear H; obtain ⟨c0_0, c0_1, c0_2, c0_3, c0_4, c0_5⟩ := S.c6 0 rfl; obtain ⟨c1_0, c1_1, c1_2⟩ := S.c3 1 rfl
  have H := S.hnew 36 [.int .i64 0, .int .i64 0]
  replace S := S.al 36 [.int .i64 0, .int .i64 0] (w2.heap.size)
  refine iv4 H n1 n2 nq dq1 ?_; clear n1 n2 nq dq1; intro n1 n2 nq dq1
  clear H; go_wp2_with fail; clear c0_0 c0_1 c0_2 c0_3 c0_4 c0_5 c1_0 c1_1 c1_2
  refine (S.call (or_two S 2 rfl)).mono ?_
  clear S
  rintro e w3 ⟨rfl, S, H⟩
  refine iv4 H n1 n2 nq dq1 ?_; clear n1 n2 nq dq1; intro n1 n2 nq dq1
  clear H; obtain ⟨c0_0, c0_1, c0_2, c0_3, c0_4, c0_5⟩ := S.c6 0 rfl; obtain ⟨c1_0, c1_1, c1_2⟩ := S.c3 1 rfl; go_wp2_with fail
  exact bodyPost_ret (v := .tuple #[.bool true, .int .i64 0]) (by simp [results, Tryz.f52, go_sem]) rfl (⟨rfl, S.below⟩)
set_option maxRecDepth 100000 in
set_option maxHeartbeats 4000000 in
theorem shasr_eq_eq {va vb : Value} {x y z : Rat} {L H k1 k2 : Nat} {w : World} (ha : IsSp w va x y L H) (hb : IsRat w vb z) (hLH : H + L + 1 ≤ 16384) (hx : H + L + 1 ≤ 32 * k1) (hy : RB z k2) (hk : k1 + k2 ≤ 511) (hc : cmpR x z = 0) (hd : cmpR y z = 0) :
    Calls Tryz.prog 52 #[va, vb] w fun e w' => e = .returned (.tuple #[.bool true, .int .i64 0]) ∧ Below w.heap.size w w' := by
  obtain ⟨b1, p1, l1, K1, m1, e1, b2, p2, l2, K2, m2, e2, rfl, h1, n1, d1, h2, n2, d2⟩ := ha
  obtain ⟨bq, pq, lq, Kq, qq, jq, Jq, rfl, hbq, nq, dq1⟩ := hb
  have HK := Lib.hid (And.intro hLH (And.intro hx (And.intro hy (And.intro hk (And.intro hc hd)))))
  clear hLH hx hy hk hc hd
  have S := ((St.start w).alloc 29 [.bool b1, .slice p1 l1 K1, .int .i64 e1, .bool b2, .slice p2 l2 K2, .int .i64 e2] (w.heap.size)).alloc 34 [.bool bq, .slice pq lq Kq, .slice qq jq Jq] (w.heap.size + 1)
  try simp only [List.cons_append, List.nil_append] at S
  refine iv4 S.hold n1 n2 nq dq1 ?_; clear n1 n2 nq dq1; intro n1 n2 nq dq1
  obtain ⟨c0_0, c0_1, c0_2, c0_3, c0_4, c0_5⟩ := S.c6 0 rfl; obtain ⟨c1_0, c1_1, c1_2⟩ := S.c3 1 rfl
  go_enter Tryz.func52, Tryz.ntmps52
  go_wp2_with fail; clear c0_0 c0_1 c0_2 c0_3 c0_4 c0_5 c1_0 c1_1 c1_2
  refine (S.call (dcmp_any ⟨b1, p1, l1, K1, m1, e1, rfl, h1, n1, d1⟩ ⟨bq, pq, lq, Kq, qq, jq, Jq, rfl, hbq, nq, dq1⟩ HK.out.1 HK.out.2.1 HK.out.2.2.1 HK.out.2.2.2.1 (0) HK.out.2.2.2.2.1)).mono ?_
  clear S
  rintro e w1 ⟨rfl, S, H⟩
  refine iv4 H n1 n2 nq dq1 ?_; clear n1 n2 nq dq1; intro n1 n2 nq dq1
  clear H; obtain ⟨c0_0, c0_1, c0_2, c0_3, c0_4, c0_5⟩ := S.c6 0 rfl; obtain ⟨c1_0, c1_1, c1_2⟩ := S.c3 1 rfl; go_wp2_with fail; clear c0_0 c0_1 c0_2 c0_3 c0_4 c0_5 c1_0 c1_1 c1_2
  refine (S.call (dcmp_any ⟨b2, p2, l2, K2, m2, e2, rfl, h2, n2, d2⟩ ⟨bq, pq, lq, Kq, qq, jq, Jq, rfl, hbq, nq, dq1⟩ HK.out.1 HK.out.2.1 HK.out.2.2.1 HK.out.2.2.2.1 (0) HK.out.2.2.2.2.2)).mono ?_
  clear S
  rintro e w2 ⟨rfl, S, H⟩
  refine iv4 H n1 n2 nq dq1 ?_; clear n1 n2 nq dq1; intro n1 n2 nq dq1
  clear H; obtain ⟨c0_0, c0_1, c0_2, c0_3, c0_4, c0_5⟩ := S.c6 0 rfl; obtain ⟨c1_0, c1_1, c1_2⟩ := S.c3 1 rfl
  have H := S.hnew 36 [.int .i64 0, .int .i64 0]
  replace S := S.al 36 [.int .i64 0, .int .i64 0] (w2.heap.size)
  refine iv4 H n1 n2 nq dq1 ?_; clear n1 n2 nq dq1; intro n1 n2 nq dq1
  clear H; go_wp2_with fail; clear c0_0 c0_1 c0_2 c0_3 c0_4 c0_5 c1_0 c1_1 c1_2
  refine (S.call (or_two S 2 rfl)).mono ?_
  clear S
  rintro e w3 ⟨rfl, S, H⟩
  refine iv4 H n1 n2 nq dq1 ?_; clear n1 n2 nq dq1; intro n1 n2 nq dq1
  clear H; obtain ⟨c0_0, c0_1, c0_2, c0_3, c0_4, c0_5⟩ := S.c6 0 rfl; obtain ⟨c1_0, c1_1, c1_2⟩ := S.c3 1 rfl; go_wp2_with fail
  exact bodyPost_ret (v := .tuple #[.bool true, .int .i64 0]) (by simp [results, Tryz.f52, go_sem]) rfl (⟨rfl, S.below⟩)
set_option maxRecDepth 100000 in
set_option maxHeartbeats 4000000 in
theorem shasr_eq_gt {va vb : Value} {x y z : Rat} {L H k1 k2 : Nat} {w : World} (ha : IsSp w va x y L H) (hb : IsRat w vb z) (hLH : H + L + 1 ≤ 16384) (hx : H + L + 1 ≤ 32 * k1) (hy : RB z k2) (hk : k1 + k2 ≤ 511) (hc : cmpR x z = 0) (hd : cmpR y z = 1) :
    Calls Tryz.prog 52 #[va, vb] w fun e w' => e = .returned (.tuple #[.bool true, .int .i64 0]) ∧ Below w.heap.size w w' := by
  obtain ⟨b1, p1, l1, K1, m1, e1, b2, p2, l2, K2, m2, e2, rfl, h1, n1, d1, h2, n2, d2⟩ := ha
  obtain ⟨bq, pq, lq, Kq, qq, jq, Jq, rfl, hbq, nq, dq1⟩ := hb
  have HK := Lib.hid (And.intro hLH (And.intro hx (And.intro hy (And.intro hk (And.intro hc hd)))))
  clear hLH hx hy hk hc hd
  have S := ((St.start w).alloc 29 [.bool b1, .slice p1 l1 K1, .int .i64 e1, .bool b2, .slice p2 l2 K2, .int .i64 e2] (w.heap.size)).alloc 34 [.bool bq, .slice pq lq Kq, .slice qq jq Jq] (w.heap.size + 1)
  try simp only [List.cons_append, List.nil_append] at S
  refine iv4 S.hold n1 n2 nq dq1 ?_; clear n1 n2 nq dq1; intro n1 n2 nq dq1
  obtain ⟨c0_0, c0_1, c0_2, c0_3, c0_4, c0_5⟩ := S.c6 0 rfl; obtain ⟨c1_0, c1_1, c1_2⟩ := S.c3 1 rfl
  go_enter Tryz.func52, Tryz.ntmps52
  go_wp2_with fail; clear c0_0 c0_1 c0_2 c0_3 c0_4 c0_5 c1_0 c1_1 c1_2
  refine (S.call (dcmp_any ⟨b1, p1, l1, K1, m1, e1, rfl, h1, n1, d1⟩ ⟨bq, pq, lq, Kq, qq, jq, Jq, rfl, hbq, nq, dq1⟩ HK.out.1 HK.out.2.1 HK.out.2.2.1 HK.out.2.2.2.1 (0) HK.out.2.2.2.2.1)).mono ?_
  clear S
  rintro e w1 ⟨rfl, S, H⟩
  refine iv4 H n1 n2 nq dq1 ?_; clear n1 n2 nq dq1; intro n1 n2 nq dq1
  clear H; obtain ⟨c0_0, c0_1, c0_2, c0_3, c0_4, c0_5⟩ := S.c6 0 rfl; obtain ⟨c1_0, c1_1, c1_2⟩ := S.c3 1 rfl; go_wp2_with fail; clear c0_0 c0_1 c0_2 c0_3 c0_4 c0_5 c1_0 c1_1 c1_2
  refine (S.call (dcmp_any ⟨b2, p2, l2, K2, m2, e2, rfl, h2, n2, d2⟩ ⟨bq, pq, lq, Kq, qq, jq, Jq, rfl, hbq, nq, dq1⟩ HK.out.1 HK.out.2.1 HK.out.2.2.1 HK.out.2.2.2.1 (1) HK.out.2.2.2.2.2)).mono ?_
  clear S
  rintro e w2 ⟨rfl, S, H⟩
  refine iv4 H n1 n2 nq dq1 ?_; clear n1 n2 nq dq1; intro n1 n2 nq dq1
  clear H; obtain ⟨c0_0, c0_1, c0_2, c0_3, c0_4, c0_5⟩ := S.c6 0 rfl; obtain ⟨c1_0, c1_1, c1_2⟩ := S.c3 1 rfl
  have H := S.hnew 36 [.int .i64 0, .int .i64 0]
  replace S := S.al 36 [.int .i64 0, .int .i64 0] (w2.heap.size)
  refine iv4 H n1 n2 nq dq1 ?_; clear n1 n2 nq dq1; intro n1 n2 nq dq1
  clear H; go_wp2_with fail; clear c0_0 c0_1 c0_2 c0_3 c0_4 c0_5 c1_0 c1_1 c1_2
  refine (S.call (or_two S 2 rfl)).mono ?_
  clear S
  rintro e w3 ⟨rfl, S, H⟩
  refine iv4 H n1 n2 nq dq1 ?_; clear n1 n2 nq dq1; intro n1 n2 nq dq1
  clear H; obtain ⟨c0_0, c0_1, c0_2, c0_3, c0_4, c0_5⟩ := S.c6 0 rfl; obtain ⟨c1_0, c1_1, c1_2⟩ := S.c3 1 rfl; go_wp2_with fail
  exact bodyPost_ret (v := .tuple #[.bool true, .int .i64 0]) (by simp [results, Tryz.f52, go_sem]) rfl (⟨rfl, S.below⟩)
set_option maxRecDepth 100000 in
set_option maxHeartbeats 4000000 in
theorem snear_of {va : Value} {a yl yh : Rat} {w : World} {L H : Nat} (n : Int) (hT : Tab w) (ha : IsRat w va a)
    (hl : ∀ (va : Value) (w : World), Tab w → IsRat w va a → Calls Tryz.prog 158 #[va, .int .i64 n, .bool false] w fun ev w' => (∃ u, ev = .returned (.tuple #[u, .int .i64 0]) ∧ IsD w' u yl L H) ∧ Below w.heap.size w w')
    (hh : ∀ (va : Value) (w : World), Tab w → IsRat w va a → Calls Tryz.prog 158 #[va, .int .i64 n, .bool true] w fun ev w' => (∃ u, ev = .returned (.tuple #[u, .int .i64 0]) ∧ IsD w' u yh L H) ∧ Below w.heap.size w w') :
    Calls Tryz.prog 79 #[va, .int .i64 n] w fun e w' => (∃ u, e = .returned (.tuple #[u, .int .i64 0]) ∧ IsSp w' u yl yh L H) ∧ Below w.heap.size w w' := by
  obtain ⟨bq, pq, lq, Kq, qq, jq, Jq, rfl, hbq, nq, dq1⟩ := ha
  have HK := Lib.hid hT
  have HL := Lib.hid hl
  have HU := Lib.hid hh
  clear hT hl hh
  have S := ((St.start w).alloc 34 [.bool bq, .slice pq lq Kq, .slice qq jq Jq] (w.heap.size)).alloc 29 [.bool false, .slice none 0 0, .int .i64 0, .bool false, .slice none 0 0, .int .i64 0] (w.heap.size + 1)
  try simp only [List.cons_append, List.nil_append] at S
  replace nq := nq.hold S.hold; replace dq1 := dq1.hold S.hold
  obtain ⟨c0_0, c0_1, c0_2⟩ := S.c3 0 rfl; obtain ⟨c1_0, c1_1, c1_2, c1_3, c1_4, c1_5⟩ := S.c6 1 rfl
  go_enter Tryz.func79, Tryz.ntmps79
  go_wp2_with fail; clear c0_0 c0_1 c0_2 c1_0 c1_1 c1_2 c1_3 c1_4 c1_5
  refine (S.call (HL.out _ _ (HK.out.below S.below) ⟨bq, pq, lq, Kq, qq, jq, Jq, rfl, hbq, nq, dq1⟩)).mono ?_
  clear S
  rintro e w1 ⟨⟨_, rfl, b3, p3, l3, K3, m3, e3, rfl, h3, n3, d3⟩, S, H⟩
  replace nq := nq.hold H; replace dq1 := dq1.hold H
  clear H; obtain ⟨c0_0, c0_1, c0_2⟩ := S.c3 0 rfl; obtain ⟨c1_0, c1_1, c1_2, c1_3, c1_4, c1_5⟩ := S.c6 1 rfl
  have H := S.hnew 27 [.bool b3, .slice p3 l3 K3, .int .i64 e3]
  replace S := S.al 27 [.bool b3, .slice p3 l3 K3, .int .i64 e3] (w1.heap.size)
  refine iv3 H nq dq1 n3 ?_; clear nq dq1 n3; intro nq dq1 n3
  clear H; clear c0_0 c0_1 c0_2 c1_0 c1_1 c1_2 c1_3 c1_4 c1_5; obtain ⟨c0_0, c0_1, c0_2⟩ := S.c3 0 rfl; obtain ⟨c1_0, c1_1, c1_2, c1_3, c1_4, c1_5⟩ := S.c6 1 rfl; obtain ⟨c2_0, c2_1, c2_2⟩ := S.c3 2 rfl; go_wp2_with fail; clear c0_0 c0_1 c0_2 c1_0 c1_1 c1_2 c1_3 c1_4 c1_5 c2_0 c2_1 c2_2
  refine (S.call (HU.out _ _ (HK.out.below S.below) ⟨bq, pq, lq, Kq, qq, jq, Jq, rfl, hbq, nq, dq1⟩)).mono ?_
  clear S
  rintro e w2 ⟨⟨_, rfl, b4, p4, l4, K4, m4, e4, rfl, h4, n4, d4⟩, S, H⟩
  refine iv3 H nq dq1 n3 ?_; clear nq dq1 n3; intro nq dq1 n3
  clear H; obtain ⟨c0_0, c0_1, c0_2⟩ := S.c3 0 rfl; obtain ⟨c1_0, c1_1, c1_2, c1_3, c1_4, c1_5⟩ := S.c6 1 rfl; obtain ⟨c2_0, c2_1, c2_2⟩ := S.c3 2 rfl
  have H := S.hnew 27 [.bool b4, .slice p4 l4 K4, .int .i64 e4]
  replace S := S.al 27 [.bool b4, .slice p4 l4 K4, .int .i64 e4] (w2.heap.size)
  refine iv4 H nq dq1 n3 n4 ?_; clear nq dq1 n3 n4; intro nq dq1 n3 n4
  clear H; clear c0_0 c0_1 c0_2 c1_0 c1_1 c1_2 c1_3 c1_4 c1_5 c2_0 c2_1 c2_2; obtain ⟨c0_0, c0_1, c0_2⟩ := S.c3 0 rfl; obtain ⟨c1_0, c1_1, c1_2, c1_3, c1_4, c1_5⟩ := S.c6 1 rfl; obtain ⟨c2_0, c2_1, c2_2⟩ := S.c3 2 rfl; obtain ⟨c3_0, c3_1, c3_2⟩ := S.c3 3 rfl
  go_upto_region 3 with fail
  clear c0_0 c0_1 c0_2 c1_0 c1_1 c1_2 c1_3 c1_4 c1_5 c2_0 c2_1 c2_2 c3_0 c3_1 c3_2
  generalize (w2.alloc (.cells #[.bool b4, .slice p4 l4 K4, .int .i64 e4] 27)) = w3 at S nq dq1 n3 n4 ⊢
  have HH := (Hold.drew w3).to32
  refine iw4 HH nq dq1 n3 n4 ?_; clear nq dq1 n3 n4; intro nq dq1 n3 n4
  replace S := S.drew
  refine wp_region_held_drew (S := fun W => W.cell? ⟨w1.heap.size, 0, none⟩ = some (.bool b3) ∧ W.cell? ⟨w1.heap.size, 1, none⟩ = some (.slice p3 l3 K3) ∧ W.cell? ⟨w1.heap.size, 2, none⟩ = some (.int .i64 e3) ∧ W.cell? ⟨w2.heap.size, 0, none⟩ = some (.bool b4) ∧ W.cell? ⟨w2.heap.size, 1, none⟩ = some (.slice p4 l4 K4) ∧ W.cell? ⟨w2.heap.size, 2, none⟩ = some (.int .i64 e4)) (by kernel_rfl) (con3 (S.c3 2 rfl) (S.c3 3 rfl)) (fun hS => ?_)
  generalize w3.drew = w4 at S nq dq1 n3 n4 HH hS ⊢
  refine tk 0 hS ?_
  refine tk 1 hS ?_
  refine tk 2 hS ?_
  refine tk 3 hS ?_
  refine rd 4 fun KK hKK => ?_
  go_simp; clear hS
  have H := S.hnew 36 [.int .i64 0, .int .i64 0]
  replace S := S.al 36 [.int .i64 0, .int .i64 0] (w4.heap.size)
  refine iv4 H nq dq1 n3 n4 ?_; clear nq dq1 n3 n4; intro nq dq1 n3 n4; replace HH := HH.trans H.to32; clear H
  refine ho hKK (con3 (S.c3 2 rfl) (S.c3 3 rfl)) fun hS => ?_
  generalize (w4.alloc (.cells #[.int .i64 0, .int .i64 0] 36)) = w5 at S nq dq1 n3 n4 HH hS ⊢
  clear hKK KK
  refine rd 5 fun KK hKK => ?_
  go_simp; clear hS
  refine (S.call (or_two S 4 rfl)).mono ?_
  clear S
  rintro e w6 ⟨rfl, S, H⟩
  refine iv4 H nq dq1 n3 n4 ?_; clear nq dq1 n3 n4; intro nq dq1 n3 n4; replace HH := HH.trans H.to32; clear H
  go_wp2_with fail
  refine ho hKK (con3 (S.c3 2 rfl) (S.c3 3 rfl)) fun hS => ?_
  clear hKK KK
  refine rd 6 fun KK hKK => ?_
  go_simp; clear hS
  refine (S.call (sbetween_any ⟨b3, p3, l3, K3, m3, e3, rfl, h3, n3, d3⟩ ⟨b4, p4, l4, K4, m4, e4, rfl, h4, n4, d4⟩)).mono ?_
  clear S
  rintro e w7 ⟨⟨_, rfl, b5, p5, l5, K5, m5, e5, b6, p6, l6, K6, m6, e6, rfl, h5, n5, d5, h6, n6, d6⟩, S, H⟩
  refine iv4 H nq dq1 n3 n4 ?_; clear nq dq1 n3 n4; intro nq dq1 n3 n4; replace HH := HH.trans H.to32; clear H
  go_wp2_with fail
  refine ho hKK (con3 (S.c3 2 rfl) (S.c3 3 rfl)) fun hS => ?_
  clear hKK KK
  refine tk 7 hS ?_
  refine tk 8 hS ?_
  refine rd 9 fun KK hKK => ?_
  obtain ⟨c0, c1, c2, c3, c4, c5⟩ := S.c6 1 rfl; obtain ⟨f0, f1, f2, f3, f4, f5⟩ := S.f6 1 rfl
  go_simp; clear hS c0 f0 c1 f1 c2 f2 c3 f3 c4 f4 c5 f5
  have HP := S.put6 1 (.bool b5) (.slice p5 l5 K5) (.int .i64 e5) (.bool b6) (.slice p6 l6 K6) (.int .i64 e6) rfl rfl; have H := HP.2; replace S := HP.1; clear HP
  refine iw6 H nq dq1 n3 n4 n5 n6 ?_; clear nq dq1 n3 n4 n5 n6; intro nq dq1 n3 n4 n5 n6; replace HH := HH.trans H; clear H
  refine ho hKK (con3 (S.c3 2 rfl) (S.c3 3 rfl)) fun hS => ?_
  generalize ((((((w7.setCell ⟨w.heap.size + 1, 0, none⟩ (.bool b5)).setCell ⟨w.heap.size + 1, 1, none⟩ (.slice p5 l5 K5)).setCell ⟨w.heap.size + 1, 2, none⟩ (.int .i64 e5)).setCell ⟨w.heap.size + 1, 3, none⟩ (.bool b6)).setCell ⟨w.heap.size + 1, 4, none⟩ (.slice p6 l6 K6)).setCell ⟨w.heap.size + 1, 5, none⟩ (.int .i64 e6)) = w8 at S nq dq1 n3 n4 n5 n6 HH hS ⊢
  clear hKK KK
  refine rd 10 fun KK hKK => ?_
  go_simp
  refine ho hKK hS fun hS => ?_
  clear hKK KK
  refine wpAnyH_done (by kernel_rfl) ?_ _
  clear hS HH; obtain ⟨c0_0, c0_1, c0_2⟩ := S.c3 0 rfl; obtain ⟨c1_0, c1_1, c1_2, c1_3, c1_4, c1_5⟩ := S.c6 1 rfl; obtain ⟨c2_0, c2_1, c2_2⟩ := S.c3 2 rfl; obtain ⟨c3_0, c3_1, c3_2⟩ := S.c3 3 rfl; go_wp2_with fail; obtain ⟨d1_0, d1_1, d1_2, d1_3, d1_4, d1_5⟩ := S.c6 1 rfl
  exact bodyPost_ret (v := .tuple #[.agg #[.bool b5, .slice p5 l5 K5, .int .i64 e5, .bool b6, .slice p6 l6 K6, .int .i64 e6], .int .i64 0]) (by simp [results, Tryz.f79, go_sem, d1_0, d1_1, d1_2, d1_3, d1_4, d1_5]) rfl (⟨⟨_, rfl, b5, p5, l5, K5, m5, e5, b6, p6, l6, K6, m6, e6, rfl, h5, n5, d5, h6, n6, d6⟩, S.below⟩)
theorem shasr_yes {va vb : Value} {x y z : Rat} {L H k1 k2 : Nat} {w : World} (ha : IsSp w va x y L H) (hb : IsRat w vb z) (hLH : H + L + 1 ≤ 16384) (hx : H + L + 1 ≤ 32 * k1) (hy : RB z k2) (hk : k1 + k2 ≤ 511) (h1 : x ≤ z) (h2 : z ≤ y) :
    Calls Tryz.prog 52 #[va, vb] w fun e w' => e = .returned (.tuple #[.bool true, .int .i64 0]) ∧ Below w.heap.size w w' := by
  have c1 : cmpR x z = -1 ∨ cmpR x z = 0 := by
    rcases rat_three x z with h | h | h
    · exact .inl (cmpR_lt h)
    · exact .inr (by rw [h]; exact cmpR_eq z)
    · exact absurd h (Rat.not_lt.2 h1)
  have c2 : cmpR y z = 0 ∨ cmpR y z = 1 := by
    rcases rat_three y z with h | h | h
    · exact absurd h (Rat.not_lt.2 h2)
    · exact .inl (by rw [h]; exact cmpR_eq z)
    · exact .inr (cmpR_gt h)
  rcases c1 with c1 | c1 <;> rcases c2 with c2 | c2
  · exact shasr_lt_eq ha hb hLH hx hy hk c1 c2
  · exact shasr_lt_gt ha hb hLH hx hy hk c1 c2
  · exact shasr_eq_eq ha hb hLH hx hy hk c1 c2
  · exact shasr_eq_gt ha hb hLH hx hy hk c1 c2
theorem rndZ_dyx (z f : Int) (n : Nat) (up : Bool) : DyX (rndZ z f n up) := by
  obtain ⟨m, e, hc, he⟩ := canon_ex z f
  rw [← rnd_canon hc he]; exact rnd_dyx _ _ _ _
theorem nearV_dyx (a : Int) (d t n : Nat) (up : Bool) : DyX (nearV a d t n up) := by
  unfold nearV; exact rndZ_dyx _ _ _ _
theorem nearV_few {a : Int} {d t n : Nat} {up : Bool} {y : Rat} (h2 : 2 ≤ n) (hy : nearV a d t n up = y) : FewX y n := fun _ _ hc hx => rndZ_few h2 hc (hx.trans hy.symm)
theorem zero_few (n : Nat) : FewX 0 n := fun m e hc hx => by
  obtain ⟨rfl, _⟩ := dyc_uniq hc (.inl ⟨rfl, rfl⟩ : DyC 0 0) (hx.trans (dq_zero 0).symm)
  simp [nbits]
theorem near_sp {a : Rat} {k : Nat} (hak : RB a k) (n : Nat) (h2 : 2 ≤ n) (h4 : n ≤ 4096) (hk : 96 * k + n + 4 ≤ 16384) :
    ∃ yl yh : Rat, yl ≤ a ∧ a ≤ yh ∧ (DyX yl ∧ DyX yh) ∧ (FewX yl n ∧ FewX yh n) ∧ (yh - yl) * (((2 ^ (n - 2) : Nat) : Int) : Rat) ≤ a.abs ∧
    (∀ (va : Value) (w : World), Tab w → IsRat w va a → Calls Tryz.prog 79 #[va, .int .i64 n] w fun e w' => (∃ u, e = .returned (.tuple #[u, .int .i64 0]) ∧ IsSp w' u yl yh (n + 64 * k) (32 * k + 3)) ∧ Below w.heap.size w w') := by
  by_cases h0 : a = 0
  · subst h0
    refine ⟨0, 0, by grind, by grind, ⟨dyx_zero, dyx_zero⟩, ⟨zero_few n, zero_few n⟩, ?_, fun va w hT ha => ?_⟩
    · rw [Rat.abs_of_nonneg (by grind)]; grind
    · have hz : ∀ (up : Bool) (va : Value) (w : World), Tab w → IsRat w va 0 → Calls Tryz.prog 158 #[va, .int .i64 n, .bool up] w fun ev w' => (∃ u, ev = .returned (.tuple #[u, .int .i64 0]) ∧ IsD w' u 0 (n + 64 * k) (32 * k + 3)) ∧ Below w.heap.size w w' := fun up va w _ ha =>
        (dnear_zero ha n h2 h4 up).mono fun e w' h => ⟨⟨_, h.1, false, none, 0, 0, 0, 0, rfl, rfl, IsNat.zero _, DyF.zero _ _⟩, h.2⟩
      exact snear_of (n : Int) hT ha (hz false) (hz true)
  · obtain ⟨t, ht⟩ := tail_ex a.den a.den_nz
    obtain ⟨d, hd⟩ : ∃ d, a.den / 2 ^ t = d := ⟨_, rfl⟩
    obtain ⟨yl, hl⟩ : ∃ y, nearV a.num d t n false = y := ⟨_, rfl⟩
    obtain ⟨yh, hh⟩ : ∃ y, nearV a.num d t n true = y := ⟨_, rfl⟩
    obtain ⟨f1, f2, _, f4⟩ := near_all h0 ht hd h2 yl yh hl hh
    refine ⟨yl, yh, f1, f2, ⟨by rw [← hl]; exact nearV_dyx _ _ _ _ _, by rw [← hh]; exact nearV_dyx _ _ _ _ _⟩, ⟨nearV_few h2 hl, nearV_few h2 hh⟩, f4, fun va w hT ha => ?_⟩
    exact snear_of (n : Int) hT ha (fun _ _ hT ha => dnear_any hT ha hak n h2 h4 false h0 t ht d hd hk yl hl) (fun _ _ hT ha => dnear_any hT ha hak n h2 h4 true h0 t ht d hd hk yh hh)
end Go.Proofs.YtfnlmiajpledfaaGreatDoor
