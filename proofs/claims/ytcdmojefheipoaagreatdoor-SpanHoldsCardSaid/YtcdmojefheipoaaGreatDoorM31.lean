/-
  What the statement stands on.
-/
import Derived.Test.YtcdmojefheipoaaGreatDoorM24
import Derived.Test.YtcdmojefheipoaaGreatDoorM25
import Derived.Test.YtcdmojefheipoaaGreatDoorM30
namespace Go.Proofs.YtcdmojefheipoaaGreatDoor
open Go.RowKit
set_option maxRecDepth 100000 in
set_option maxHeartbeats 4000000 in
theorem shas6_any {va vb : Value} {x y z : Rat} {L H k1 k2 : Nat} {w : World} (hT : Tab w) (ha : IsSp w va x y L H) (hb : IsRat w vb z) (hLH : H + L + 1 ≤ 16384) (hx : H + L + 1 ≤ 32 * k1) (hy : RB z k2) (hk : k1 + k2 ≤ 511) (g1 : x ≤ z) (g2 : z ≤ y) (n : Nat) (f1 : FewX x n) (f2 : FewX y n) :
    Calls Tryz.prog 25 #[va, .int .i64 0, vb, .int .i64 n] w fun e w' => e = .returned (.bool true) ∧ Below w.heap.size w w' := by
  obtain ⟨b1, p1, l1, K1, m1, e1, b2, p2, l2, K2, m2, e2, rfl, h1, n1, d1, h2, n2, d2⟩ := ha
  obtain ⟨bq, pq, lq, Kq, qq, jq, Jq, rfl, hbq, nq, dq1⟩ := hb
  obtain ⟨t1, ht1⟩ : ∃ t, nbits m1.natAbs = t := ⟨_, rfl⟩
  obtain ⟨t2, ht2⟩ : ∃ t, nbits m2.natAbs = t := ⟨_, rfl⟩
  have hle1 : (t1 : Int) ≤ (n : Int) := by have := f1 m1 e1 d1.out.1 d1.out.2.2; omega
  have hle2 : (t2 : Int) ≤ (n : Int) := by have := f2 m2 e2 d2.out.1 d2.out.2.2; omega
  have HK := Lib.hid (And.intro hLH (And.intro hx (And.intro hy (And.intro hk (And.intro g1 (And.intro g2 (And.intro ht1 (And.intro ht2 hT))))))))
  have HN := Lib.hid (Rat.not_lt.2 (Rat.le_trans g1 g2))
  clear hLH hx hy hk g1 g2 ht1 ht2 hT f1 f2
  have S := ((St.start w).alloc 29 [.bool b1, .slice p1 l1 K1, .int .i64 e1, .bool b2, .slice p2 l2 K2, .int .i64 e2] (w.heap.size)).alloc 34 [.bool bq, .slice pq lq Kq, .slice qq jq Jq] (w.heap.size + 1)
  try simp only [List.cons_append, List.nil_append] at S
  refine iv4 S.hold n1 n2 nq dq1 ?_; clear n1 n2 nq dq1; intro n1 n2 nq dq1
  have c0_ := S.c6 0 rfl; have c1_ := S.c3 1 rfl
  go_enter Tryz.func25, Tryz.ntmps25
  go_wp2_with fail; clear c0_ c1_
  refine S.cl (shasr_yes ⟨b1, p1, l1, K1, m1, e1, b2, p2, l2, K2, m2, e2, rfl, h1, n1, d1, h2, n2, d2⟩ ⟨bq, pq, lq, Kq, qq, jq, Jq, rfl, hbq, nq, dq1⟩ HK.out.1 HK.out.2.1 HK.out.2.2.1 HK.out.2.2.2.1 HK.out.2.2.2.2.1 HK.out.2.2.2.2.2.1) ?_; clear S; rintro e w1 rfl S H
  refine iv4 H n1 n2 nq dq1 ?_; clear n1 n2 nq dq1; intro n1 n2 nq dq1
  clear H; have c0_ := S.c6 0 rfl; have c1_ := S.c3 1 rfl; go_wp2_with fail; clear c0_ c1_
  refine S.cl (bits_nat n1 (d1.out.max (by have := HK.out.1; omega)) HK.out.2.2.2.2.2.2.1) ?_; clear S; rintro e w2 rfl S H
  refine iv4 H n1 n2 nq dq1 ?_; clear n1 n2 nq dq1; intro n1 n2 nq dq1
  clear H; have c0_ := S.c6 0 rfl; have c1_ := S.c3 1 rfl; go_wp2_with fail; clear c0_ c1_
  refine S.cl (bits_nat n2 (d2.out.max (by have := HK.out.1; omega)) HK.out.2.2.2.2.2.2.2.1) ?_; clear S; rintro e w3 rfl S H
  refine iv4 H n1 n2 nq dq1 ?_; clear n1 n2 nq dq1; intro n1 n2 nq dq1
  clear H; have c0_ := S.c6 0 rfl; have c1_ := S.c3 1 rfl; go_wp2_with fail; clear c0_ c1_
  refine S.cl (scheck_any (HK.out.2.2.2.2.2.2.2.2.below S.below) ⟨b1, p1, l1, K1, m1, e1, b2, p2, l2, K2, m2, e2, rfl, h1, n1, d1, h2, n2, d2⟩ (by have := HK.out.1; omega) HN.out) ?_; clear S; rintro e w4 rfl S H
  refine iv4 H n1 n2 nq dq1 ?_; clear n1 n2 nq dq1; intro n1 n2 nq dq1
  clear H; have c0_ := S.c6 0 rfl; have c1_ := S.c3 1 rfl; go_wp2_with fail
  exact bodyPost_ret (v := .bool true) (by simp [results, Tryz.f25, go_sem]) rfl (⟨rfl, S.below⟩)
theorem at_between {x y : Rat} (h : x ≤ y) (k : Int) (h0 : 0 ≤ k) (h1 : k ≤ 100) : x ≤ x + (y - x) * Rat.divInt k 100 ∧ x + (y - x) * Rat.divInt k 100 ≤ y := by
  have e1 : Rat.divInt k 100 = (k : Rat) * (1 / 100) := by rw [Rat.divInt_eq_div]; grind
  have h2 : (0 : Rat) ≤ (k : Rat) := by have := (Rat.intCast_le_intCast (a := 0) (b := k)).2 h0; simpa using this
  have h3 : (k : Rat) ≤ 100 := by have := (Rat.intCast_le_intCast (a := k) (b := 100)).2 h1; simpa using this
  rw [e1]
  have h4 : 0 ≤ y - x := by grind
  have h5 := Rat.mul_nonneg h4 (show (0 : Rat) ≤ (k : Rat) * (1 / 100) by grind)
  have h6 := Rat.mul_nonneg h4 (show (0 : Rat) ≤ 1 - (k : Rat) * (1 / 100) by grind)
  constructor <;> grind
theorem rb_part (k : Int) (h0 : 0 ≤ k) (h1 : k ≤ 100) : RB (Rat.divInt k 100) 1 := rb_divInt (by decide) (by rw [NB_one]; omega) (by rw [NB_one]; decide)
set_option maxRecDepth 100000 in
set_option maxHeartbeats 8000000 in
theorem sat_any {va : Value} {x y : Rat} {w : World} {L H k : Nat} (part : Int) (ha : IsSp w va x y L H) (hLH : H + L + 1 ≤ 16384) (hk1 : H + L ≤ 32 * k) (hk2 : L + 1 ≤ 32 * k) (hk : 4 * k + 10 ≤ 511) (hxy : x ≤ y) :
    Calls Tryz.prog 15 #[va, .int .i64 part] w fun e w' => (∃ u, e = .returned u ∧ ∃ z, IsRat w' u z ∧ Hid (x ≤ z ∧ z ≤ y ∧ RB z (3 * k + 3))) ∧ Below w.heap.size w w' := by
  obtain ⟨b1, p1, l1, K1, m1, e1, b2, p2, l2, K2, m2, e2, rfl, h1, n1, d1, h2, n2, d2⟩ := ha
  have hp := i64_and127 part
  obtain ⟨a, hA⟩ : ∃ a, part % 128 = a := ⟨_, rfl⟩
  rw [hA] at hp
  have hA2 : 0 ≤ a ∧ a < 128 := by omega
  have ht : Int.tmod a 101 = a % 101 := Int.tmod_eq_emod_of_nonneg hA2.1
  obtain ⟨c, hc⟩ : ∃ c, a % 101 = c := ⟨_, rfl⟩
  rw [hc] at ht
  have hC2 : 0 ≤ c ∧ c ≤ 100 := by omega
  have hw : IntKind.i64.wrap c = c := wrap_int (by omega) (by omega)
  have R1 : RB x k := rb_dyad d1.out hk1 hk2
  have R2 : RB y k := rb_dyad d2.out hk1 hk2
  have R3 := rb_sub R2 R1
  obtain ⟨dd, hdd⟩ : ∃ z, y - x = z := ⟨_, rfl⟩
  obtain ⟨pp, hpp⟩ : ∃ z, dd * Rat.divInt c 100 = z := ⟨_, rfl⟩
  obtain ⟨zz, hzz⟩ : ∃ z, x + pp = z := ⟨_, rfl⟩
  have HB := at_between hxy c hC2.1 hC2.2
  rw [hdd] at R3 HB
  have R5 := rb_mul R3 (rb_part c hC2.1 hC2.2)
  rw [hpp] at R5 HB
  have R6 := rb_add R1 R5
  rw [hzz] at R6 HB
  have HB := Lib.hid HB
  have HR := Lib.hid (And.intro R1 (And.intro R2 (And.intro R3 (And.intro R5 R6))))
  have HE := Lib.hid (And.intro hdd (And.intro hpp hzz))
  have HK := Lib.hid (And.intro hLH (And.intro hk (And.intro hC2 (rb_part c hC2.1 hC2.2))))
  clear hLH hk1 hk2 hk hxy hA hA2 hc hC2 R1 R2 R3 R5 R6 hdd hpp hzz
  have S := ((St.start w).alloc 29 [.bool b1, .slice p1 l1 K1, .int .i64 e1, .bool b2, .slice p2 l2 K2, .int .i64 e2] (w.heap.size)).alloc 34 [.bool false, .slice none 0 0, .slice none 0 0] (w.heap.size + 1)
  try simp only [List.cons_append, List.nil_append] at S
  replace n1 := n1.hold S.hold; replace n2 := n2.hold S.hold
  have c0_ := S.c6 0 rfl; have c1_ := S.c3 1 rfl
  go_enter Tryz.func15, Tryz.ntmps15
  go_wp2_with fail; clear c0_ c1_
  refine S.cl (dratio_any ⟨b1, p1, l1, K1, m1, e1, rfl, h1, n1, d1⟩ HK.out.1) ?_; clear S; rintro e w1 ⟨_, rfl, b3, p3, l3, K3, q3, j3, J3, rfl, h3, n3, d3⟩ S H
  replace n1 := n1.hold H; replace n2 := n2.hold H
  clear H; have c0_ := S.c6 0 rfl; have c1_ := S.c3 1 rfl
  have H := S.hnew 34 [.bool b3, .slice p3 l3 K3, .slice q3 j3 J3]
  replace S := S.al 34 [.bool b3, .slice p3 l3 K3, .slice q3 j3 J3] (w1.heap.size)
  refine iv4 H n1 n2 n3 d3 ?_; clear n1 n2 n3 d3; intro n1 n2 n3 d3
  clear H; clear c0_ c1_; have c0_ := S.c6 0 rfl; have c1_ := S.c3 1 rfl; have c2_ := S.c3 2 rfl; go_wp2_with fail; clear c0_ c1_ c2_
  refine S.cl (dratio_any ⟨b2, p2, l2, K2, m2, e2, rfl, h2, n2, d2⟩ HK.out.1) ?_; clear S; rintro e w2 ⟨_, rfl, b4, p4, l4, K4, q4, j4, J4, rfl, h4, n4, d4⟩ S H
  refine iv4 H n1 n2 n3 d3 ?_; clear n1 n2 n3 d3; intro n1 n2 n3 d3
  clear H; have c0_ := S.c6 0 rfl; have c1_ := S.c3 1 rfl; have c2_ := S.c3 2 rfl
  have H := S.hnew 34 [.bool b4, .slice p4 l4 K4, .slice q4 j4 J4]
  replace S := S.al 34 [.bool b4, .slice p4 l4 K4, .slice q4 j4 J4] (w2.heap.size)
  refine iv6 H n1 n2 n3 d3 n4 d4 ?_; clear n1 n2 n3 d3 n4 d4; intro n1 n2 n3 d3 n4 d4
  clear H; clear c0_ c1_ c2_; have c2_ := S.c3 2 rfl; have c3_ := S.c3 3 rfl; go_wp2_with fail; clear c2_ c3_
  refine S.cl (rsub_any ⟨b4, p4, l4, K4, q4, j4, J4, rfl, h4, n4, d4⟩ ⟨b3, p3, l3, K3, q3, j3, J3, rfl, h3, n3, d3⟩ HR.out.2.1 HR.out.1 (by have := HK.out.2.1; omega) dd HE.out.1) ?_; clear S; rintro e w3 ⟨_, rfl, b5, p5, l5, K5, q5, j5, J5, rfl, h5, n5, d5⟩ S H
  refine iv6 H n1 n2 n3 d3 n4 d4 ?_; clear n1 n2 n3 d3 n4 d4; intro n1 n2 n3 d3 n4 d4
  clear H; have c2_ := S.c3 2 rfl; have c3_ := S.c3 3 rfl
  have H := S.hnew 34 [.bool b5, .slice p5 l5 K5, .slice q5 j5 J5]
  replace S := S.al 34 [.bool b5, .slice p5 l5 K5, .slice q5 j5 J5] (w3.heap.size)
  refine iv8 H n1 n2 n3 d3 n4 d4 n5 d5 ?_; clear n1 n2 n3 d3 n4 d4 n5 d5; intro n1 n2 n3 d3 n4 d4 n5 d5
  clear H; clear c2_ c3_; have c4_ := S.c3 4 rfl
  go_upto_region 4 with fail
  clear c4_
  generalize (w3.alloc (.cells #[.bool b5, .slice p5 l5 K5, .slice q5 j5 J5] 34)) = w4 at S n1 n2 n3 d3 n4 d4 n5 d5 ⊢
  go_cut [11, 12] (fun s11 s12 wx => ∃ g11 b7 p7 l7 K7 q7 j7 J7, s11 = .pointer (some ⟨g11, 0, none⟩) ∧ s12 = .int .i64 0 ∧ St w wx [(w.heap.size, 29, [.bool b1, .slice p1 l1 K1, .int .i64 e1, .bool b2, .slice p2 l2 K2, .int .i64 e2]), (w.heap.size + 1, 34, [.bool false, .slice none 0 0, .slice none 0 0]), (w1.heap.size, 34, [.bool b3, .slice p3 l3 K3, .slice q3 j3 J3]), (w2.heap.size, 34, [.bool b4, .slice p4 l4 K4, .slice q4 j4 J4]), (w3.heap.size, 34, [.bool b5, .slice p5 l5 K5, .slice q5 j5 J5]), (g11, 34, [.bool b7, .slice p7 l7 K7, .slice q7 j7 J7])] ∧ Hid (negB pp.num = b7) ∧ IsNat wx (.slice p7 l7 K7) pp.num.natAbs ∧ IsNat wx (.slice q7 j7 J7) pp.den ∧ Hold w4 wx)
  case first =>
    have HH := Hold.drew w4
    refine iv8 HH n1 n2 n3 d3 n4 d4 n5 d5 ?_; clear n1 n2 n3 d3 n4 d4 n5 d5; intro n1 n2 n3 d3 n4 d4 n5 d5
    replace S := S.drew
    refine wp_region_held_drew (S := fun W => W.cell? ⟨w3.heap.size, 0, none⟩ = some (.bool b5) ∧ W.cell? ⟨w3.heap.size, 1, none⟩ = some (.slice p5 l5 K5) ∧ W.cell? ⟨w3.heap.size, 2, none⟩ = some (.slice q5 j5 J5)) (by kernel_rfl) (S.c3 4 rfl) (fun hS => ?_)
    generalize w4.drew = w5 at S n1 n2 n3 d3 n4 d4 n5 d5 HH hS ⊢
    refine tk 0 hS ?_
    refine tk 1 hS ?_
    refine tk 2 hS ?_
    refine tk 3 hS ?_
    refine wpAnyH_ready (rs := [4, 9]) (by kernel_rfl) (by simp) (AllReadyH.cons (opOf rfl) (fun KK hKK => ?_) (AllReadyH.cons (opOf rfl) (fun KK hKK => ?_) AllReadyH.nil))
    ·
      go_simp; clear hS
      refine S.cl (rof_any c 100 _ (by have := HK.out.2.2.1; omega) (by have := HK.out.2.2.1; omega) (by decide) (by decide) (by decide) _ rfl) ?_; clear S; rintro e w6 ⟨_, rfl, b6, p6, l6, K6, q6, j6, J6, rfl, h6, n6, d6⟩ S H
      refine iv8 H n1 n2 n3 d3 n4 d4 n5 d5 ?_; clear n1 n2 n3 d3 n4 d4 n5 d5; intro n1 n2 n3 d3 n4 d4 n5 d5; replace HH := HH.trans H; clear H
      go_wp2_with fail
      refine ho hKK (S.c3 4 rfl) fun hS => ?_
      clear hKK KK
      refine wpAnyH_ready (rs := [5, 9]) (by kernel_rfl) (by simp) (AllReadyH.cons (opOf rfl) (fun KK hKK => ?_) (AllReadyH.cons (opOf rfl) (fun KK hKK => ?_) AllReadyH.nil))
      ·
        go_simp; clear hS
        refine S.cl (rmul_any ⟨b5, p5, l5, K5, q5, j5, J5, rfl, h5, n5, d5⟩ ⟨b6, p6, l6, K6, q6, j6, J6, rfl, h6, n6, d6⟩ HR.out.2.2.1 HK.out.2.2.2 (by have := HK.out.2.1; omega) pp HE.out.2.1) ?_; clear S; rintro e w7 ⟨_, rfl, b7, p7, l7, K7, q7, j7, J7, rfl, h7, n7, d7⟩ S H
        refine iv8 H n1 n2 n3 d3 n4 d4 n5 d5 ?_; clear n1 n2 n3 d3 n4 d4 n5 d5; intro n1 n2 n3 d3 n4 d4 n5 d5; refine iv3 H n6 d6 HH ?_; clear n6 d6 HH H; intro n6 d6 HH
        go_wp2_with fail
        refine ho hKK (S.c3 4 rfl) fun hS => ?_
        clear hKK KK
        refine tk 6 hS ?_
        refine tk 7 hS ?_
        refine tk 8 hS ?_
        refine rd 9 fun KK hKK => ?_
        go_simp; clear hS
        have H := S.hnew 34 [.bool false, .slice none 0 0, .slice none 0 0]
        replace S := S.al 34 [.bool false, .slice none 0 0, .slice none 0 0] (w7.heap.size)
        refine iv8 H n1 n2 n3 d3 n4 d4 n5 d5 ?_; clear n1 n2 n3 d3 n4 d4 n5 d5; intro n1 n2 n3 d3 n4 d4 n5 d5; refine iv5 H n6 d6 n7 d7 HH ?_; clear n6 d6 n7 d7 HH H; intro n6 d6 n7 d7 HH
        refine ho hKK (S.c3 4 rfl) fun hS => ?_
        generalize (w7.alloc (.cells #[.bool false, .slice none 0 0, .slice none 0 0] 34)) = w8 at S n1 n2 n3 d3 n4 d4 n5 d5 n6 d6 n7 d7 HH hS ⊢
        clear hKK KK
        refine rd 10 fun KK hKK => ?_
        obtain ⟨c0, c1, c2⟩ := S.c3 5 rfl; obtain ⟨f0, f1, f2⟩ := S.f3 5 rfl
        go_simp; clear hS c0 f0 c1 f1 c2 f2
        have HP := S.putq 5 (.bool b7) (.slice p7 l7 K7) (.slice q7 j7 J7) rfl rfl; have H := HP.2; replace S := HP.1; clear HP
        refine iv8 H n1 n2 n3 d3 n4 d4 n5 d5 ?_; clear n1 n2 n3 d3 n4 d4 n5 d5; intro n1 n2 n3 d3 n4 d4 n5 d5; refine iv5 H n6 d6 n7 d7 HH ?_; clear n6 d6 n7 d7 HH H; intro n6 d6 n7 d7 HH
        refine ho hKK (S.c3 4 rfl) fun hS => ?_
        generalize (((w8.setCell ⟨w7.heap.size, 0, none⟩ (.bool b7)).setCell ⟨w7.heap.size, 1, none⟩ (.slice p7 l7 K7)).setCell ⟨w7.heap.size, 2, none⟩ (.slice q7 j7 J7)) = w9 at S n1 n2 n3 d3 n4 d4 n5 d5 n6 d6 n7 d7 HH hS ⊢
        clear hKK KK
        refine rd 11 fun KK hKK => ?_
        go_simp
        refine ho hKK hS fun hS => ?_
        clear hKK KK
        refine wpAnyH_done (by kernel_rfl) ?_ _
        go_wp2_with fail
        go_meet
        case rel => exact ⟨w7.heap.size, b7, p7, l7, K7, q7, j7, J7, rfl, rfl, S, h7, n7, d7, HH⟩
      ·
        go_simp; clear hS
        have H := S.hnew 34 [.bool false, .slice none 0 0, .slice none 0 0]
        replace S := S.al 34 [.bool false, .slice none 0 0, .slice none 0 0] (w6.heap.size)
        refine iv8 H n1 n2 n3 d3 n4 d4 n5 d5 ?_; clear n1 n2 n3 d3 n4 d4 n5 d5; intro n1 n2 n3 d3 n4 d4 n5 d5; refine iv3 H n6 d6 HH ?_; clear n6 d6 HH H; intro n6 d6 HH
        refine ho hKK (S.c3 4 rfl) fun hS => ?_
        generalize (w6.alloc (.cells #[.bool false, .slice none 0 0, .slice none 0 0] 34)) = w10 at S n1 n2 n3 d3 n4 d4 n5 d5 n6 d6 HH hS ⊢
        clear hKK KK
        refine rd 5 fun KK hKK => ?_
        go_simp; clear hS
        refine S.cl (rmul_any ⟨b5, p5, l5, K5, q5, j5, J5, rfl, h5, n5, d5⟩ ⟨b6, p6, l6, K6, q6, j6, J6, rfl, h6, n6, d6⟩ HR.out.2.2.1 HK.out.2.2.2 (by have := HK.out.2.1; omega) pp HE.out.2.1) ?_; clear S; rintro e w11 ⟨_, rfl, b7, p7, l7, K7, q7, j7, J7, rfl, h7, n7, d7⟩ S H
        refine iv8 H n1 n2 n3 d3 n4 d4 n5 d5 ?_; clear n1 n2 n3 d3 n4 d4 n5 d5; intro n1 n2 n3 d3 n4 d4 n5 d5; refine iv3 H n6 d6 HH ?_; clear n6 d6 HH H; intro n6 d6 HH
        go_wp2_with fail
        refine ho hKK (S.c3 4 rfl) fun hS => ?_
        clear hKK KK
        refine tk 6 hS ?_
        refine tk 7 hS ?_
        refine tk 8 hS ?_
        refine rd 10 fun KK hKK => ?_
        obtain ⟨c0, c1, c2⟩ := S.c3 5 rfl; obtain ⟨f0, f1, f2⟩ := S.f3 5 rfl
        go_simp; clear hS c0 f0 c1 f1 c2 f2
        have HP := S.putq 5 (.bool b7) (.slice p7 l7 K7) (.slice q7 j7 J7) rfl rfl; have H := HP.2; replace S := HP.1; clear HP
        refine iv8 H n1 n2 n3 d3 n4 d4 n5 d5 ?_; clear n1 n2 n3 d3 n4 d4 n5 d5; intro n1 n2 n3 d3 n4 d4 n5 d5; refine iv5 H n6 d6 n7 d7 HH ?_; clear n6 d6 n7 d7 HH H; intro n6 d6 n7 d7 HH
        refine ho hKK (S.c3 4 rfl) fun hS => ?_
        generalize (((w11.setCell ⟨w6.heap.size, 0, none⟩ (.bool b7)).setCell ⟨w6.heap.size, 1, none⟩ (.slice p7 l7 K7)).setCell ⟨w6.heap.size, 2, none⟩ (.slice q7 j7 J7)) = w12 at S n1 n2 n3 d3 n4 d4 n5 d5 n6 d6 n7 d7 HH hS ⊢
        clear hKK KK
        refine rd 11 fun KK hKK => ?_
        go_simp
        refine ho hKK hS fun hS => ?_
        clear hKK KK
        refine wpAnyH_done (by kernel_rfl) ?_ _
        go_wp2_with fail
        go_meet
        case rel => exact ⟨w6.heap.size, b7, p7, l7, K7, q7, j7, J7, rfl, rfl, S, h7, n7, d7, HH⟩
    ·
      go_simp; clear hS
      have H := S.hnew 34 [.bool false, .slice none 0 0, .slice none 0 0]
      replace S := S.al 34 [.bool false, .slice none 0 0, .slice none 0 0] (w5.heap.size)
      refine iv8 H n1 n2 n3 d3 n4 d4 n5 d5 ?_; clear n1 n2 n3 d3 n4 d4 n5 d5; intro n1 n2 n3 d3 n4 d4 n5 d5; replace HH := HH.trans H; clear H
      refine ho hKK (S.c3 4 rfl) fun hS => ?_
      generalize (w5.alloc (.cells #[.bool false, .slice none 0 0, .slice none 0 0] 34)) = w13 at S n1 n2 n3 d3 n4 d4 n5 d5 HH hS ⊢
      clear hKK KK
      refine rd 4 fun KK hKK => ?_
      go_simp; clear hS
      refine S.cl (rof_any c 100 _ (by have := HK.out.2.2.1; omega) (by have := HK.out.2.2.1; omega) (by decide) (by decide) (by decide) _ rfl) ?_; clear S; rintro e w14 ⟨_, rfl, b6, p6, l6, K6, q6, j6, J6, rfl, h6, n6, d6⟩ S H
      refine iv8 H n1 n2 n3 d3 n4 d4 n5 d5 ?_; clear n1 n2 n3 d3 n4 d4 n5 d5; intro n1 n2 n3 d3 n4 d4 n5 d5; replace HH := HH.trans H; clear H
      go_wp2_with fail
      refine ho hKK (S.c3 4 rfl) fun hS => ?_
      clear hKK KK
      refine rd 5 fun KK hKK => ?_
      go_simp; clear hS
      refine S.cl (rmul_any ⟨b5, p5, l5, K5, q5, j5, J5, rfl, h5, n5, d5⟩ ⟨b6, p6, l6, K6, q6, j6, J6, rfl, h6, n6, d6⟩ HR.out.2.2.1 HK.out.2.2.2 (by have := HK.out.2.1; omega) pp HE.out.2.1) ?_; clear S; rintro e w15 ⟨_, rfl, b7, p7, l7, K7, q7, j7, J7, rfl, h7, n7, d7⟩ S H
      refine iv8 H n1 n2 n3 d3 n4 d4 n5 d5 ?_; clear n1 n2 n3 d3 n4 d4 n5 d5; intro n1 n2 n3 d3 n4 d4 n5 d5; refine iv3 H n6 d6 HH ?_; clear n6 d6 HH H; intro n6 d6 HH
      go_wp2_with fail
      refine ho hKK (S.c3 4 rfl) fun hS => ?_
      clear hKK KK
      refine tk 6 hS ?_
      refine tk 7 hS ?_
      refine tk 8 hS ?_
      refine rd 10 fun KK hKK => ?_
      obtain ⟨c0, c1, c2⟩ := S.c3 5 rfl; obtain ⟨f0, f1, f2⟩ := S.f3 5 rfl
      go_simp; clear hS c0 f0 c1 f1 c2 f2
      have HP := S.putq 5 (.bool b7) (.slice p7 l7 K7) (.slice q7 j7 J7) rfl rfl; have H := HP.2; replace S := HP.1; clear HP
      refine iv8 H n1 n2 n3 d3 n4 d4 n5 d5 ?_; clear n1 n2 n3 d3 n4 d4 n5 d5; intro n1 n2 n3 d3 n4 d4 n5 d5; refine iv5 H n6 d6 n7 d7 HH ?_; clear n6 d6 n7 d7 HH H; intro n6 d6 n7 d7 HH
      refine ho hKK (S.c3 4 rfl) fun hS => ?_
      generalize (((w15.setCell ⟨w5.heap.size, 0, none⟩ (.bool b7)).setCell ⟨w5.heap.size, 1, none⟩ (.slice p7 l7 K7)).setCell ⟨w5.heap.size, 2, none⟩ (.slice q7 j7 J7)) = w16 at S n1 n2 n3 d3 n4 d4 n5 d5 n6 d6 n7 d7 HH hS ⊢
      clear hKK KK
      refine rd 11 fun KK hKK => ?_
      go_simp
      refine ho hKK hS fun hS => ?_
      clear hKK KK
      refine wpAnyH_done (by kernel_rfl) ?_ _
      go_wp2_with fail
      go_meet
      case rel => exact ⟨w5.heap.size, b7, p7, l7, K7, q7, j7, J7, rfl, rfl, S, h7, n7, d7, HH⟩
  case rest =>
    obtain ⟨g11, b7, p7, l7, K7, q7, j7, J7, rfl, rfl, S, h7, n7, d7, HH⟩ := hcut
    obtain ⟨w17, rfl⟩ : ∃ W : World, W = wc := ⟨_, rfl⟩
    refine iv8 HH n1 n2 n3 d3 n4 d4 n5 d5 ?_; clear n1 n2 n3 d3 n4 d4 n5 d5 HH; intro n1 n2 n3 d3 n4 d4 n5 d5; have c2_ := S.c3 2 rfl; have c5_ := S.c3 5 rfl; go_wp2_with fail; clear c2_ c5_
    refine S.cl (radd_any ⟨b3, p3, l3, K3, q3, j3, J3, rfl, h3, n3, d3⟩ ⟨b7, p7, l7, K7, q7, j7, J7, rfl, h7, n7, d7⟩ HR.out.1 HR.out.2.2.2.1 (by have := HK.out.2.1; omega) zz HE.out.2.2) ?_; clear S; rintro e w18 ⟨_, rfl, b8, p8, l8, K8, q8, j8, J8, rfl, h8, n8, d8⟩ S H
    refine iv8 H n1 n2 n3 d3 n4 d4 n5 d5 ?_; clear n1 n2 n3 d3 n4 d4 n5 d5; intro n1 n2 n3 d3 n4 d4 n5 d5; refine iv2 H n7 d7 ?_; clear n7 d7; intro n7 d7
    clear H; have c2_ := S.c3 2 rfl; have c5_ := S.c3 5 rfl
    have H := S.hnew 34 [.bool b8, .slice p8 l8 K8, .slice q8 j8 J8]
    replace S := S.al 34 [.bool b8, .slice p8 l8 K8, .slice q8 j8 J8] (w18.heap.size)
    refine iv8 H n1 n2 n3 d3 n4 d4 n5 d5 ?_; clear n1 n2 n3 d3 n4 d4 n5 d5; intro n1 n2 n3 d3 n4 d4 n5 d5; refine iv4 H n7 d7 n8 d8 ?_; clear n7 d7 n8 d8; intro n7 d7 n8 d8
    clear H; clear c2_ c5_; have c1_ := S.c3 1 rfl; have c6_ := S.c3 6 rfl
    obtain ⟨f1_0, f1_1, f1_2⟩ := S.f3 1 rfl
    have HP := S.putq 1 (.bool b8) (.slice p8 l8 K8) (.slice q8 j8 J8) rfl rfl; have H := HP.2; replace S := HP.1; clear HP
    refine iv8 H n1 n2 n3 d3 n4 d4 n5 d5 ?_; clear n1 n2 n3 d3 n4 d4 n5 d5; intro n1 n2 n3 d3 n4 d4 n5 d5; refine iv4 H n7 d7 n8 d8 ?_; clear n7 d7 n8 d8; intro n7 d7 n8 d8
    clear H; go_wp2_with fail; obtain ⟨d1_0, d1_1, d1_2⟩ := S.c3 1 rfl
    exact bodyPost_ret (v := .agg #[.bool b8, .slice p8 l8 K8, .slice q8 j8 J8]) (by simp [results, Tryz.f15, go_sem, d1_0, d1_1, d1_2]) rfl (⟨⟨_, rfl, zz, ⟨b8, p8, l8, K8, q8, j8, J8, rfl, h8, n8, d8⟩, HB.out.1, HB.out.2, HR.out.2.2.2.2.mono (by omega)⟩, S.below⟩)
end Go.Proofs.YtcdmojefheipoaaGreatDoor
