/-
  What the statement stands on.
-/
import Derived.Test.YtcdmojefheipoaaGreatDoorM25
import Derived.Test.YtcdmojefheipoaaGreatDoorM36
namespace Go.Proofs.YtcdmojefheipoaaGreatDoor
open Go.RowKit
set_option maxRecDepth 100000 in
set_option maxHeartbeats 4000000 in
theorem shas6_any {va vb : Value} {x y z : Rat} {L H k1 k2 : Nat} {w : World} (hT : Tab w) (ha : IsSp w va x y L H) (hb : IsRat w vb z) (hLH : H + L + 1 ≤ 16384) (hx : H + L + 1 ≤ 32 * k1) (hy : RB z k2) (hk : k1 + k2 ≤ 511) (g1 : x ≤ z) (g2 : z ≤ y) (n : Nat) (f1 : FewX x n) (f2 : FewX y n) :
    Calls Tryz.prog 25 #[va, .int .i64 0, vb, .int .i64 n] w fun e w' => e = .returned (.bool true) ∧ Below w.heap.size w w' := by
  obtain ⟨b1, p1, l1, K1, m1, e1, b2, p2, l2, K2, m2, e2, rfl, h1, n1, d1, h2, n2, d2⟩ := ha
  obtain ⟨bq, pq, lq, Kq, qq, jq, Jq, rfl, hbq, nq, dq1⟩ := hb
  obtain ⟨t1, ht1⟩ : ∃ t, nbits m1.natAbs = t := ⟨_, rfl⟩
  obtain ⟨t2, ht2⟩ : ∃ t, nbits m2.natAbs = t := ⟨_, rfl⟩
  have hle1 : (t1 : Int) ≤ (n : Int) := by have := f1 m1 e1 d1.out.1 d1.out.2.2; omega
  have hle2 : (t2 : Int) ≤ (n : Int) := by have := f2 m2 e2 d2.out.1 d2.out.2.2; omega
  have HK := Lib.hid (And.intro hLH (And.intro hx (And.intro hy (And.intro hk (And.intro g1 (And.intro g2 (And.intro ht1 (And.intro ht2 hT))))))))
  have HN := Lib.hid (Rat.not_lt.2 (Rat.le_trans g1 g2))
  clear hLH hx hy hk g1 g2 ht1 ht2 hT f1 f2
  have S := ((St.start w).alloc 29 [.bool b1, .slice p1 l1 K1, .int .i64 e1, .bool b2, .slice p2 l2 K2, .int .i64 e2] (w.heap.size)).alloc 34 [.bool bq, .slice pq lq Kq, .slice qq jq Jq] (w.heap.size + 1)
  try simp only [List.cons_append, List.nil_append] at S
  refine iv4 S.hold n1 n2 nq dq1 ?_; clear n1 n2 nq dq1; intro n1 n2 nq dq1
  obtain ⟨c0_0, c0_1, c0_2, c0_3, c0_4, c0_5⟩ := S.c6 0 rfl; obtain ⟨c1_0, c1_1, c1_2⟩ := S.c3 1 rfl
  go_enter Tryz.func25, Tryz.ntmps25
  go_wp2_with fail; clear c0_0 c0_1 c0_2 c0_3 c0_4 c0_5 c1_0 c1_1 c1_2
  refine (S.call (shasr_yes ⟨b1, p1, l1, K1, m1, e1, b2, p2, l2, K2, m2, e2, rfl, h1, n1, d1, h2, n2, d2⟩ ⟨bq, pq, lq, Kq, qq, jq, Jq, rfl, hbq, nq, dq1⟩ HK.out.1 HK.out.2.1 HK.out.2.2.1 HK.out.2.2.2.1 HK.out.2.2.2.2.1 HK.out.2.2.2.2.2.1)).mono ?_
  clear S
  rintro e w1 ⟨rfl, S, H⟩
  refine iv4 H n1 n2 nq dq1 ?_; clear n1 n2 nq dq1; intro n1 n2 nq dq1
  clear H; obtain ⟨c0_0, c0_1, c0_2, c0_3, c0_4, c0_5⟩ := S.c6 0 rfl; obtain ⟨c1_0, c1_1, c1_2⟩ := S.c3 1 rfl; go_wp2_with fail; clear c0_0 c0_1 c0_2 c0_3 c0_4 c0_5 c1_0 c1_1 c1_2
  refine (S.call (bits_nat n1 (d1.out.max (by have := HK.out.1; omega)) HK.out.2.2.2.2.2.2.1)).mono ?_
  clear S
  rintro e w2 ⟨rfl, S, H⟩
  refine iv4 H n1 n2 nq dq1 ?_; clear n1 n2 nq dq1; intro n1 n2 nq dq1
  clear H; obtain ⟨c0_0, c0_1, c0_2, c0_3, c0_4, c0_5⟩ := S.c6 0 rfl; obtain ⟨c1_0, c1_1, c1_2⟩ := S.c3 1 rfl; go_wp2_with fail; clear c0_0 c0_1 c0_2 c0_3 c0_4 c0_5 c1_0 c1_1 c1_2
  refine (S.call (bits_nat n2 (d2.out.max (by have := HK.out.1; omega)) HK.out.2.2.2.2.2.2.2.1)).mono ?_
  clear S
  rintro e w3 ⟨rfl, S, H⟩
  refine iv4 H n1 n2 nq dq1 ?_; clear n1 n2 nq dq1; intro n1 n2 nq dq1
  clear H; obtain ⟨c0_0, c0_1, c0_2, c0_3, c0_4, c0_5⟩ := S.c6 0 rfl; obtain ⟨c1_0, c1_1, c1_2⟩ := S.c3 1 rfl; go_wp2_with fail; clear c0_0 c0_1 c0_2 c0_3 c0_4 c0_5 c1_0 c1_1 c1_2
  refine (S.call (scheck_any (HK.out.2.2.2.2.2.2.2.2.below S.below) ⟨b1, p1, l1, K1, m1, e1, b2, p2, l2, K2, m2, e2, rfl, h1, n1, d1, h2, n2, d2⟩ (by have := HK.out.1; omega) HN.out)).mono ?_
  clear S
  rintro e w4 ⟨rfl, S, H⟩
  refine iv4 H n1 n2 nq dq1 ?_; clear n1 n2 nq dq1; intro n1 n2 nq dq1
  clear H; obtain ⟨c0_0, c0_1, c0_2, c0_3, c0_4, c0_5⟩ := S.c6 0 rfl; obtain ⟨c1_0, c1_1, c1_2⟩ := S.c3 1 rfl; go_wp2_with fail
  exact bodyPost_ret (v := .bool true) (by simp [results, Tryz.f25, go_sem]) rfl (⟨rfl, S.below⟩)
end Go.Proofs.YtcdmojefheipoaaGreatDoor
