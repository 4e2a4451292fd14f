/-
  What the statement stands on.
-/
import Derived.Test.YtcdmojefheipoaaGreatDoorM23
namespace Go.Proofs.YtcdmojefheipoaaGreatDoor
open Go.RowKit
set_option maxRecDepth 100000 in
set_option maxHeartbeats 4000000 in
theorem smeet_none {va vb : Value} {x y u v : Rat} {w : World} {L H : Nat} (ha : IsSp w va x y L H) (hb : IsSp w vb u v L H) (hk : H + L ≤ 16384) (hr : min2 y v < max2 x u) :
    Calls Tryz.prog 33 #[va, vb] w fun e w' => e = .returned (.tuple #[.agg #[.bool false, .slice none 0 0, .int .i64 0, .bool false, .slice none 0 0, .int .i64 0], .int .i64 4]) ∧ Below w.heap.size w w' := by
  obtain ⟨b1, p1, l1, K1, m1, e1, b2, p2, l2, K2, m2, e2, rfl, h1, n1, d1, h2, n2, d2⟩ := ha
  obtain ⟨b3, p3, l3, K3, m3, e3, b4, p4, l4, K4, m4, e4, rfl, h3, n3, d3, h4, n4, d4⟩ := hb
  have HK := Lib.hid hk
  have hl := Lib.hid (decide_eq_true hr)
  clear hk hr
  have S := (((St.start w).alloc 29 [.bool b1, .slice p1 l1 K1, .int .i64 e1, .bool b2, .slice p2 l2 K2, .int .i64 e2] (w.heap.size)).alloc 29 [.bool b3, .slice p3 l3 K3, .int .i64 e3, .bool b4, .slice p4 l4 K4, .int .i64 e4] (w.heap.size + 1)).alloc 29 [.bool false, .slice none 0 0, .int .i64 0, .bool false, .slice none 0 0, .int .i64 0] (w.heap.size + 1 + 1)
  try simp only [List.cons_append, List.nil_append] at S
  refine iv4 S.hold n1 n2 n3 n4 ?_; clear n1 n2 n3 n4; intro n1 n2 n3 n4
  have c0_ := S.c6 0 rfl; have c1_ := S.c6 1 rfl; have c2_ := S.c6 2 rfl
  go_enter Tryz.func33, Tryz.ntmps33
  go_upto_region 1 with fail
  clear c0_ c1_ c2_
  generalize (((w.alloc (.cells #[.bool b1, .slice p1 l1 K1, .int .i64 e1, .bool b2, .slice p2 l2 K2, .int .i64 e2] 29)).alloc (.cells #[.bool b3, .slice p3 l3 K3, .int .i64 e3, .bool b4, .slice p4 l4 K4, .int .i64 e4] 29)).alloc (.cells #[.bool false, .slice none 0 0, .int .i64 0, .bool false, .slice none 0 0, .int .i64 0] 29)) = w1 at S n1 n2 n3 n4 ⊢
  go_cut [6, 7] (fun s6 s7 wx => ∃ g6 g7 b5 p5 l5 K5 m5 e5 b6 p6 l6 K6 m6 e6, s6 = .pointer (some ⟨g6, 0, none⟩) ∧ s7 = .pointer (some ⟨g7, 0, none⟩) ∧ Su w wx [(w.heap.size, 29, [.bool b1, .slice p1 l1 K1, .int .i64 e1, .bool b2, .slice p2 l2 K2, .int .i64 e2]), (w.heap.size + 1, 29, [.bool b3, .slice p3 l3 K3, .int .i64 e3, .bool b4, .slice p4 l4 K4, .int .i64 e4]), (w.heap.size + 1 + 1, 29, [.bool false, .slice none 0 0, .int .i64 0, .bool false, .slice none 0 0, .int .i64 0]), (g6, 27, [.bool b5, .slice p5 l5 K5, .int .i64 e5]), (g7, 27, [.bool b6, .slice p6 l6 K6, .int .i64 e6])] ∧ Hid (negB m5 = b5) ∧ IsNat wx (.slice p5 l5 K5) m5.natAbs ∧ Hid (DyF m5 e5 (max2 x u) L H) ∧ Hid (negB m6 = b6) ∧ IsNat wx (.slice p6 l6 K6) m6.natAbs ∧ Hid (DyF m6 e6 (min2 y v) L H) ∧ Hold32 w1 wx)
  case first =>
    have HH := (Hold.drew w1).to32
    refine iw4 HH n1 n2 n3 n4 ?_; clear n1 n2 n3 n4; intro n1 n2 n3 n4
    replace S := S.drew
    refine wp_region_held_drew (S := fun W => W.cell? ⟨w.heap.size, 0, none⟩ = some (.bool b1) ∧ W.cell? ⟨w.heap.size, 1, none⟩ = some (.slice p1 l1 K1) ∧ W.cell? ⟨w.heap.size, 2, none⟩ = some (.int .i64 e1) ∧ W.cell? ⟨w.heap.size, 3, none⟩ = some (.bool b2) ∧ W.cell? ⟨w.heap.size, 4, none⟩ = some (.slice p2 l2 K2) ∧ W.cell? ⟨w.heap.size, 5, none⟩ = some (.int .i64 e2) ∧ W.cell? ⟨w.heap.size + 1, 0, none⟩ = some (.bool b3) ∧ W.cell? ⟨w.heap.size + 1, 1, none⟩ = some (.slice p3 l3 K3) ∧ W.cell? ⟨w.heap.size + 1, 2, none⟩ = some (.int .i64 e3) ∧ W.cell? ⟨w.heap.size + 1, 3, none⟩ = some (.bool b4) ∧ W.cell? ⟨w.heap.size + 1, 4, none⟩ = some (.slice p4 l4 K4) ∧ W.cell? ⟨w.heap.size + 1, 5, none⟩ = some (.int .i64 e4)) (by kernel_rfl) (con6 (S.c6 0 rfl) (S.c6 1 rfl)) (fun hS => ?_)
    generalize w1.drew = w2 at S n1 n2 n3 n4 HH hS ⊢
    refine tk 0 hS ?_
    refine tk 1 hS ?_
    refine tk 2 hS ?_
    refine tk 3 hS ?_
    refine tk 5 hS ?_
    refine tk 6 hS ?_
    refine tk 7 hS ?_
    refine tk 8 hS ?_
    refine wpAnyH_ready (rs := [4, 10, 11]) (by kernel_rfl) (by simp) (AllReadyH.cons (opOf rfl) (fun KK hKK => ?_) (AllReadyH.cons (opOf rfl) (fun KK hKK => ?_) (AllReadyH.cons (opOf rfl) (fun KK hKK => ?_) AllReadyH.nil)))
    ·
      go_simp; clear hS
      refine S.cl (dmax_any ⟨b1, p1, l1, K1, m1, e1, rfl, h1, n1, d1⟩ ⟨b3, p3, l3, K3, m3, e3, rfl, h3, n3, d3⟩ HK.out) ?_; clear S; rintro e w3 ⟨_, rfl, b5, p5, l5, K5, m5, e5, rfl, h5, n5, d5⟩ S H
      refine iv4 H n1 n2 n3 n4 ?_; clear n1 n2 n3 n4; intro n1 n2 n3 n4; replace HH := HH.trans H.to32; clear H
      go_wp2_with fail
      refine ho hKK (con6 (S.c6 0 rfl) (S.c6 1 rfl)) fun hS => ?_
      clear hKK KK
      refine wpAnyH_ready (rs := [9, 10, 11]) (by kernel_rfl) (by simp) (AllReadyH.cons (opOf rfl) (fun KK hKK => ?_) (AllReadyH.cons (opOf rfl) (fun KK hKK => ?_) (AllReadyH.cons (opOf rfl) (fun KK hKK => ?_) AllReadyH.nil)))
      ·
        go_simp; clear hS
        refine S.cl (dmin_any ⟨b2, p2, l2, K2, m2, e2, rfl, h2, n2, d2⟩ ⟨b4, p4, l4, K4, m4, e4, rfl, h4, n4, d4⟩ HK.out) ?_; clear S; rintro e w4 ⟨_, rfl, b6, p6, l6, K6, m6, e6, rfl, h6, n6, d6⟩ S H
        refine iv5 H n1 n2 n3 n4 n5 ?_; clear n1 n2 n3 n4 n5; intro n1 n2 n3 n4 n5; replace HH := HH.trans H.to32; clear H
        go_wp2_with fail
        refine ho hKK (con6 (S.c6 0 rfl) (S.c6 1 rfl)) fun hS => ?_
        clear hKK KK
        refine wpAnyH_ready (rs := [10, 11]) (by kernel_rfl) (by simp) (AllReadyH.cons (opOf rfl) (fun KK hKK => ?_) (AllReadyH.cons (opOf rfl) (fun KK hKK => ?_) AllReadyH.nil))
        ·
          go_simp; clear hS
          have H := S.hnew 27 [.bool false, .slice none 0 0, .int .i64 0]
          replace S := S.al 27 [.bool false, .slice none 0 0, .int .i64 0] (w4.heap.size)
          refine iv6 H n1 n2 n3 n4 n5 n6 ?_; clear n1 n2 n3 n4 n5 n6; intro n1 n2 n3 n4 n5 n6; replace HH := HH.trans H.to32; clear H
          refine ho hKK (con6 (S.c6 0 rfl) (S.c6 1 rfl)) fun hS => ?_
          generalize (w4.alloc (.cells #[.bool false, .slice none 0 0, .int .i64 0] 27)) = w5 at S n1 n2 n3 n4 n5 n6 HH hS ⊢
          clear hKK KK
          refine rd 11 fun KK hKK => ?_
          go_simp; clear hS
          have H := S.hnew 27 [.bool false, .slice none 0 0, .int .i64 0]
          replace S := S.al 27 [.bool false, .slice none 0 0, .int .i64 0] (w5.heap.size)
          refine iv6 H n1 n2 n3 n4 n5 n6 ?_; clear n1 n2 n3 n4 n5 n6; intro n1 n2 n3 n4 n5 n6; replace HH := HH.trans H.to32; clear H
          refine ho hKK (con6 (S.c6 0 rfl) (S.c6 1 rfl)) fun hS => ?_
          generalize (w5.alloc (.cells #[.bool false, .slice none 0 0, .int .i64 0] 27)) = w6 at S n1 n2 n3 n4 n5 n6 HH hS ⊢
          clear hKK KK
          refine rd 12 fun KK hKK => ?_
          obtain ⟨c0, c1, c2⟩ := S.c3 3 rfl; obtain ⟨f0, f1, f2⟩ := S.f3 3 rfl
          go_simp; clear hS c0 f0 c1 f1 c2 f2
          have HP := S.put3 3 (.bool b5) (.slice p5 l5 K5) (.int .i64 e5) rfl rfl; have H := HP.2; replace S := HP.1; clear HP
          refine iw7 H n1 n2 n3 n4 n5 n6 HH ?_; clear n1 n2 n3 n4 n5 n6 HH H; intro n1 n2 n3 n4 n5 n6 HH
          refine ho hKK (con6 (S.c6 0 rfl) (S.c6 1 rfl)) fun hS => ?_
          generalize (((w6.setCell ⟨w4.heap.size, 0, none⟩ (.bool b5)).setCell ⟨w4.heap.size, 1, none⟩ (.slice p5 l5 K5)).setCell ⟨w4.heap.size, 2, none⟩ (.int .i64 e5)) = w7 at S n1 n2 n3 n4 n5 n6 HH hS ⊢
          clear hKK KK
          refine rd 13 fun KK hKK => ?_
          obtain ⟨c0, c1, c2⟩ := S.c3 4 rfl; obtain ⟨f0, f1, f2⟩ := S.f3 4 rfl
          go_simp; clear hS c0 f0 c1 f1 c2 f2
          have HP := S.put3 4 (.bool b6) (.slice p6 l6 K6) (.int .i64 e6) rfl rfl; have H := HP.2; replace S := HP.1; clear HP
          refine iw7 H n1 n2 n3 n4 n5 n6 HH ?_; clear n1 n2 n3 n4 n5 n6 HH H; intro n1 n2 n3 n4 n5 n6 HH
          refine ho hKK (con6 (S.c6 0 rfl) (S.c6 1 rfl)) fun hS => ?_
          generalize (((w7.setCell ⟨w5.heap.size, 0, none⟩ (.bool b6)).setCell ⟨w5.heap.size, 1, none⟩ (.slice p6 l6 K6)).setCell ⟨w5.heap.size, 2, none⟩ (.int .i64 e6)) = w8 at S n1 n2 n3 n4 n5 n6 HH hS ⊢
          clear hKK KK
          refine wpAnyH_done (by kernel_rfl) ?_ _
          go_wp2_with fail
          go_meet
          case rel => exact ⟨w4.heap.size, w5.heap.size, b5, p5, l5, K5, m5, e5, b6, p6, l6, K6, m6, e6, rfl, rfl, Su.of S [0, 1, 2, 3, 4] rfl, h5, n5, d5, h6, n6, d6, HH⟩
        ·
          go_simp; clear hS
          have H := S.hnew 27 [.bool false, .slice none 0 0, .int .i64 0]
          replace S := S.al 27 [.bool false, .slice none 0 0, .int .i64 0] (w4.heap.size)
          refine iv6 H n1 n2 n3 n4 n5 n6 ?_; clear n1 n2 n3 n4 n5 n6; intro n1 n2 n3 n4 n5 n6; replace HH := HH.trans H.to32; clear H
          refine ho hKK (con6 (S.c6 0 rfl) (S.c6 1 rfl)) fun hS => ?_
          generalize (w4.alloc (.cells #[.bool false, .slice none 0 0, .int .i64 0] 27)) = w9 at S n1 n2 n3 n4 n5 n6 HH hS ⊢
          clear hKK KK
          refine rd 10 fun KK hKK => ?_
          go_simp; clear hS
          have H := S.hnew 27 [.bool false, .slice none 0 0, .int .i64 0]
          replace S := S.al 27 [.bool false, .slice none 0 0, .int .i64 0] (w9.heap.size)
          refine iv6 H n1 n2 n3 n4 n5 n6 ?_; clear n1 n2 n3 n4 n5 n6; intro n1 n2 n3 n4 n5 n6; replace HH := HH.trans H.to32; clear H
          refine ho hKK (con6 (S.c6 0 rfl) (S.c6 1 rfl)) fun hS => ?_
          generalize (w9.alloc (.cells #[.bool false, .slice none 0 0, .int .i64 0] 27)) = w10 at S n1 n2 n3 n4 n5 n6 HH hS ⊢
          clear hKK KK
          refine rd 12 fun KK hKK => ?_
          obtain ⟨c0, c1, c2⟩ := S.c3 4 rfl; obtain ⟨f0, f1, f2⟩ := S.f3 4 rfl
          go_simp; clear hS c0 f0 c1 f1 c2 f2
          have HP := S.put3 4 (.bool b5) (.slice p5 l5 K5) (.int .i64 e5) rfl rfl; have H := HP.2; replace S := HP.1; clear HP
          refine iw7 H n1 n2 n3 n4 n5 n6 HH ?_; clear n1 n2 n3 n4 n5 n6 HH H; intro n1 n2 n3 n4 n5 n6 HH
          refine ho hKK (con6 (S.c6 0 rfl) (S.c6 1 rfl)) fun hS => ?_
          generalize (((w10.setCell ⟨w9.heap.size, 0, none⟩ (.bool b5)).setCell ⟨w9.heap.size, 1, none⟩ (.slice p5 l5 K5)).setCell ⟨w9.heap.size, 2, none⟩ (.int .i64 e5)) = w11 at S n1 n2 n3 n4 n5 n6 HH hS ⊢
          clear hKK KK
          refine rd 13 fun KK hKK => ?_
          obtain ⟨c0, c1, c2⟩ := S.c3 3 rfl; obtain ⟨f0, f1, f2⟩ := S.f3 3 rfl
          go_simp; clear hS c0 f0 c1 f1 c2 f2
          have HP := S.put3 3 (.bool b6) (.slice p6 l6 K6) (.int .i64 e6) rfl rfl; have H := HP.2; replace S := HP.1; clear HP
          refine iw7 H n1 n2 n3 n4 n5 n6 HH ?_; clear n1 n2 n3 n4 n5 n6 HH H; intro n1 n2 n3 n4 n5 n6 HH
          refine ho hKK (con6 (S.c6 0 rfl) (S.c6 1 rfl)) fun hS => ?_
          generalize (((w11.setCell ⟨w4.heap.size, 0, none⟩ (.bool b6)).setCell ⟨w4.heap.size, 1, none⟩ (.slice p6 l6 K6)).setCell ⟨w4.heap.size, 2, none⟩ (.int .i64 e6)) = w12 at S n1 n2 n3 n4 n5 n6 HH hS ⊢
          clear hKK KK
          refine wpAnyH_done (by kernel_rfl) ?_ _
          go_wp2_with fail
          go_meet
          case rel => exact ⟨w9.heap.size, w4.heap.size, b5, p5, l5, K5, m5, e5, b6, p6, l6, K6, m6, e6, rfl, rfl, Su.of S [0, 1, 2, 4, 3] rfl, h5, n5, d5, h6, n6, d6, HH⟩
      ·
        go_simp; clear hS
        have H := S.hnew 27 [.bool false, .slice none 0 0, .int .i64 0]
        replace S := S.al 27 [.bool false, .slice none 0 0, .int .i64 0] (w3.heap.size)
        refine iv5 H n1 n2 n3 n4 n5 ?_; clear n1 n2 n3 n4 n5; intro n1 n2 n3 n4 n5; replace HH := HH.trans H.to32; clear H
        refine ho hKK (con6 (S.c6 0 rfl) (S.c6 1 rfl)) fun hS => ?_
        generalize (w3.alloc (.cells #[.bool false, .slice none 0 0, .int .i64 0] 27)) = w13 at S n1 n2 n3 n4 n5 HH hS ⊢
        clear hKK KK
        refine wpAnyH_ready (rs := [9, 11]) (by kernel_rfl) (by simp) (AllReadyH.cons (opOf rfl) (fun KK hKK => ?_) (AllReadyH.cons (opOf rfl) (fun KK hKK => ?_) AllReadyH.nil))
        ·
          go_simp; clear hS
          refine S.cl (dmin_any ⟨b2, p2, l2, K2, m2, e2, rfl, h2, n2, d2⟩ ⟨b4, p4, l4, K4, m4, e4, rfl, h4, n4, d4⟩ HK.out) ?_; clear S; rintro e w14 ⟨_, rfl, b6, p6, l6, K6, m6, e6, rfl, h6, n6, d6⟩ S H
          refine iv5 H n1 n2 n3 n4 n5 ?_; clear n1 n2 n3 n4 n5; intro n1 n2 n3 n4 n5; replace HH := HH.trans H.to32; clear H
          go_wp2_with fail
          refine ho hKK (con6 (S.c6 0 rfl) (S.c6 1 rfl)) fun hS => ?_
          clear hKK KK
          refine rd 11 fun KK hKK => ?_
          go_simp; clear hS
          have H := S.hnew 27 [.bool false, .slice none 0 0, .int .i64 0]
          replace S := S.al 27 [.bool false, .slice none 0 0, .int .i64 0] (w14.heap.size)
          refine iv6 H n1 n2 n3 n4 n5 n6 ?_; clear n1 n2 n3 n4 n5 n6; intro n1 n2 n3 n4 n5 n6; replace HH := HH.trans H.to32; clear H
          refine ho hKK (con6 (S.c6 0 rfl) (S.c6 1 rfl)) fun hS => ?_
          generalize (w14.alloc (.cells #[.bool false, .slice none 0 0, .int .i64 0] 27)) = w15 at S n1 n2 n3 n4 n5 n6 HH hS ⊢
          clear hKK KK
          refine rd 12 fun KK hKK => ?_
          obtain ⟨c0, c1, c2⟩ := S.c3 3 rfl; obtain ⟨f0, f1, f2⟩ := S.f3 3 rfl
          go_simp; clear hS c0 f0 c1 f1 c2 f2
          have HP := S.put3 3 (.bool b5) (.slice p5 l5 K5) (.int .i64 e5) rfl rfl; have H := HP.2; replace S := HP.1; clear HP
          refine iw7 H n1 n2 n3 n4 n5 n6 HH ?_; clear n1 n2 n3 n4 n5 n6 HH H; intro n1 n2 n3 n4 n5 n6 HH
          refine ho hKK (con6 (S.c6 0 rfl) (S.c6 1 rfl)) fun hS => ?_
          generalize (((w15.setCell ⟨w3.heap.size, 0, none⟩ (.bool b5)).setCell ⟨w3.heap.size, 1, none⟩ (.slice p5 l5 K5)).setCell ⟨w3.heap.size, 2, none⟩ (.int .i64 e5)) = w16 at S n1 n2 n3 n4 n5 n6 HH hS ⊢
          clear hKK KK
          refine rd 13 fun KK hKK => ?_
          obtain ⟨c0, c1, c2⟩ := S.c3 4 rfl; obtain ⟨f0, f1, f2⟩ := S.f3 4 rfl
          go_simp; clear hS c0 f0 c1 f1 c2 f2
          have HP := S.put3 4 (.bool b6) (.slice p6 l6 K6) (.int .i64 e6) rfl rfl; have H := HP.2; replace S := HP.1; clear HP
          refine iw7 H n1 n2 n3 n4 n5 n6 HH ?_; clear n1 n2 n3 n4 n5 n6 HH H; intro n1 n2 n3 n4 n5 n6 HH
          refine ho hKK (con6 (S.c6 0 rfl) (S.c6 1 rfl)) fun hS => ?_
          generalize (((w16.setCell ⟨w14.heap.size, 0, none⟩ (.bool b6)).setCell ⟨w14.heap.size, 1, none⟩ (.slice p6 l6 K6)).setCell ⟨w14.heap.size, 2, none⟩ (.int .i64 e6)) = w17 at S n1 n2 n3 n4 n5 n6 HH hS ⊢
          clear hKK KK
          refine wpAnyH_done (by kernel_rfl) ?_ _
          go_wp2_with fail
          go_meet
          case rel => exact ⟨w3.heap.size, w14.heap.size, b5, p5, l5, K5, m5, e5, b6, p6, l6, K6, m6, e6, rfl, rfl, Su.of S [0, 1, 2, 3, 4] rfl, h5, n5, d5, h6, n6, d6, HH⟩
        ·
          go_simp; clear hS
          have H := S.hnew 27 [.bool false, .slice none 0 0, .int .i64 0]
          replace S := S.al 27 [.bool false, .slice none 0 0, .int .i64 0] (w13.heap.size)
          refine iv5 H n1 n2 n3 n4 n5 ?_; clear n1 n2 n3 n4 n5; intro n1 n2 n3 n4 n5; replace HH := HH.trans H.to32; clear H
          refine ho hKK (con6 (S.c6 0 rfl) (S.c6 1 rfl)) fun hS => ?_
          generalize (w13.alloc (.cells #[.bool false, .slice none 0 0, .int .i64 0] 27)) = w18 at S n1 n2 n3 n4 n5 HH hS ⊢
          clear hKK KK
          refine rd 9 fun KK hKK => ?_
          go_simp; clear hS
          refine S.cl (dmin_any ⟨b2, p2, l2, K2, m2, e2, rfl, h2, n2, d2⟩ ⟨b4, p4, l4, K4, m4, e4, rfl, h4, n4, d4⟩ HK.out) ?_; clear S; rintro e w19 ⟨_, rfl, b6, p6, l6, K6, m6, e6, rfl, h6, n6, d6⟩ S H
          refine iv5 H n1 n2 n3 n4 n5 ?_; clear n1 n2 n3 n4 n5; intro n1 n2 n3 n4 n5; replace HH := HH.trans H.to32; clear H
          go_wp2_with fail
          refine ho hKK (con6 (S.c6 0 rfl) (S.c6 1 rfl)) fun hS => ?_
          clear hKK KK
          refine rd 12 fun KK hKK => ?_
          obtain ⟨c0, c1, c2⟩ := S.c3 3 rfl; obtain ⟨f0, f1, f2⟩ := S.f3 3 rfl
          go_simp; clear hS c0 f0 c1 f1 c2 f2
          have HP := S.put3 3 (.bool b5) (.slice p5 l5 K5) (.int .i64 e5) rfl rfl; have H := HP.2; replace S := HP.1; clear HP
          refine iw7 H n1 n2 n3 n4 n5 n6 HH ?_; clear n1 n2 n3 n4 n5 n6 HH H; intro n1 n2 n3 n4 n5 n6 HH
          refine ho hKK (con6 (S.c6 0 rfl) (S.c6 1 rfl)) fun hS => ?_
          generalize (((w19.setCell ⟨w3.heap.size, 0, none⟩ (.bool b5)).setCell ⟨w3.heap.size, 1, none⟩ (.slice p5 l5 K5)).setCell ⟨w3.heap.size, 2, none⟩ (.int .i64 e5)) = w20 at S n1 n2 n3 n4 n5 n6 HH hS ⊢
          clear hKK KK
          refine rd 13 fun KK hKK => ?_
          obtain ⟨c0, c1, c2⟩ := S.c3 4 rfl; obtain ⟨f0, f1, f2⟩ := S.f3 4 rfl
          go_simp; clear hS c0 f0 c1 f1 c2 f2
          have HP := S.put3 4 (.bool b6) (.slice p6 l6 K6) (.int .i64 e6) rfl rfl; have H := HP.2; replace S := HP.1; clear HP
          refine iw7 H n1 n2 n3 n4 n5 n6 HH ?_; clear n1 n2 n3 n4 n5 n6 HH H; intro n1 n2 n3 n4 n5 n6 HH
          refine ho hKK (con6 (S.c6 0 rfl) (S.c6 1 rfl)) fun hS => ?_
          generalize (((w20.setCell ⟨w13.heap.size, 0, none⟩ (.bool b6)).setCell ⟨w13.heap.size, 1, none⟩ (.slice p6 l6 K6)).setCell ⟨w13.heap.size, 2, none⟩ (.int .i64 e6)) = w21 at S n1 n2 n3 n4 n5 n6 HH hS ⊢
          clear hKK KK
          refine wpAnyH_done (by kernel_rfl) ?_ _
          go_wp2_with fail
          go_meet
          case rel => exact ⟨w3.heap.size, w13.heap.size, b5, p5, l5, K5, m5, e5, b6, p6, l6, K6, m6, e6, rfl, rfl, Su.of S [0, 1, 2, 3, 4] rfl, h5, n5, d5, h6, n6, d6, HH⟩
      ·
        go_simp; clear hS
        have H := S.hnew 27 [.bool false, .slice none 0 0, .int .i64 0]
        replace S := S.al 27 [.bool false, .slice none 0 0, .int .i64 0] (w3.heap.size)
        refine iv5 H n1 n2 n3 n4 n5 ?_; clear n1 n2 n3 n4 n5; intro n1 n2 n3 n4 n5; replace HH := HH.trans H.to32; clear H
        refine ho hKK (con6 (S.c6 0 rfl) (S.c6 1 rfl)) fun hS => ?_
        generalize (w3.alloc (.cells #[.bool false, .slice none 0 0, .int .i64 0] 27)) = w22 at S n1 n2 n3 n4 n5 HH hS ⊢
        clear hKK KK
        refine wpAnyH_ready (rs := [9, 10]) (by kernel_rfl) (by simp) (AllReadyH.cons (opOf rfl) (fun KK hKK => ?_) (AllReadyH.cons (opOf rfl) (fun KK hKK => ?_) AllReadyH.nil))
        ·
          go_simp; clear hS
          refine S.cl (dmin_any ⟨b2, p2, l2, K2, m2, e2, rfl, h2, n2, d2⟩ ⟨b4, p4, l4, K4, m4, e4, rfl, h4, n4, d4⟩ HK.out) ?_; clear S; rintro e w23 ⟨_, rfl, b6, p6, l6, K6, m6, e6, rfl, h6, n6, d6⟩ S H
          refine iv5 H n1 n2 n3 n4 n5 ?_; clear n1 n2 n3 n4 n5; intro n1 n2 n3 n4 n5; replace HH := HH.trans H.to32; clear H
          go_wp2_with fail
          refine ho hKK (con6 (S.c6 0 rfl) (S.c6 1 rfl)) fun hS => ?_
          clear hKK KK
          refine rd 10 fun KK hKK => ?_
          go_simp; clear hS
          have H := S.hnew 27 [.bool false, .slice none 0 0, .int .i64 0]
          replace S := S.al 27 [.bool false, .slice none 0 0, .int .i64 0] (w23.heap.size)
          refine iv6 H n1 n2 n3 n4 n5 n6 ?_; clear n1 n2 n3 n4 n5 n6; intro n1 n2 n3 n4 n5 n6; replace HH := HH.trans H.to32; clear H
          refine ho hKK (con6 (S.c6 0 rfl) (S.c6 1 rfl)) fun hS => ?_
          generalize (w23.alloc (.cells #[.bool false, .slice none 0 0, .int .i64 0] 27)) = w24 at S n1 n2 n3 n4 n5 n6 HH hS ⊢
          clear hKK KK
          refine rd 12 fun KK hKK => ?_
          obtain ⟨c0, c1, c2⟩ := S.c3 4 rfl; obtain ⟨f0, f1, f2⟩ := S.f3 4 rfl
          go_simp; clear hS c0 f0 c1 f1 c2 f2
          have HP := S.put3 4 (.bool b5) (.slice p5 l5 K5) (.int .i64 e5) rfl rfl; have H := HP.2; replace S := HP.1; clear HP
          refine iw7 H n1 n2 n3 n4 n5 n6 HH ?_; clear n1 n2 n3 n4 n5 n6 HH H; intro n1 n2 n3 n4 n5 n6 HH
          refine ho hKK (con6 (S.c6 0 rfl) (S.c6 1 rfl)) fun hS => ?_
          generalize (((w24.setCell ⟨w23.heap.size, 0, none⟩ (.bool b5)).setCell ⟨w23.heap.size, 1, none⟩ (.slice p5 l5 K5)).setCell ⟨w23.heap.size, 2, none⟩ (.int .i64 e5)) = w25 at S n1 n2 n3 n4 n5 n6 HH hS ⊢
          clear hKK KK
          refine rd 13 fun KK hKK => ?_
          obtain ⟨c0, c1, c2⟩ := S.c3 3 rfl; obtain ⟨f0, f1, f2⟩ := S.f3 3 rfl
          go_simp; clear hS c0 f0 c1 f1 c2 f2
          have HP := S.put3 3 (.bool b6) (.slice p6 l6 K6) (.int .i64 e6) rfl rfl; have H := HP.2; replace S := HP.1; clear HP
          refine iw7 H n1 n2 n3 n4 n5 n6 HH ?_; clear n1 n2 n3 n4 n5 n6 HH H; intro n1 n2 n3 n4 n5 n6 HH
          refine ho hKK (con6 (S.c6 0 rfl) (S.c6 1 rfl)) fun hS => ?_
          generalize (((w25.setCell ⟨w3.heap.size, 0, none⟩ (.bool b6)).setCell ⟨w3.heap.size, 1, none⟩ (.slice p6 l6 K6)).setCell ⟨w3.heap.size, 2, none⟩ (.int .i64 e6)) = w26 at S n1 n2 n3 n4 n5 n6 HH hS ⊢
          clear hKK KK
          refine wpAnyH_done (by kernel_rfl) ?_ _
          go_wp2_with fail
          go_meet
          case rel => exact ⟨w23.heap.size, w3.heap.size, b5, p5, l5, K5, m5, e5, b6, p6, l6, K6, m6, e6, rfl, rfl, Su.of S [0, 1, 2, 4, 3] rfl, h5, n5, d5, h6, n6, d6, HH⟩
        ·
          go_simp; clear hS
          have H := S.hnew 27 [.bool false, .slice none 0 0, .int .i64 0]
          replace S := S.al 27 [.bool false, .slice none 0 0, .int .i64 0] (w22.heap.size)
          refine iv5 H n1 n2 n3 n4 n5 ?_; clear n1 n2 n3 n4 n5; intro n1 n2 n3 n4 n5; replace HH := HH.trans H.to32; clear H
          refine ho hKK (con6 (S.c6 0 rfl) (S.c6 1 rfl)) fun hS => ?_
          generalize (w22.alloc (.cells #[.bool false, .slice none 0 0, .int .i64 0] 27)) = w27 at S n1 n2 n3 n4 n5 HH hS ⊢
          clear hKK KK
          refine rd 9 fun KK hKK => ?_
          go_simp; clear hS
          refine S.cl (dmin_any ⟨b2, p2, l2, K2, m2, e2, rfl, h2, n2, d2⟩ ⟨b4, p4, l4, K4, m4, e4, rfl, h4, n4, d4⟩ HK.out) ?_; clear S; rintro e w28 ⟨_, rfl, b6, p6, l6, K6, m6, e6, rfl, h6, n6, d6⟩ S H
          refine iv5 H n1 n2 n3 n4 n5 ?_; clear n1 n2 n3 n4 n5; intro n1 n2 n3 n4 n5; replace HH := HH.trans H.to32; clear H
          go_wp2_with fail
          refine ho hKK (con6 (S.c6 0 rfl) (S.c6 1 rfl)) fun hS => ?_
          clear hKK KK
          refine rd 12 fun KK hKK => ?_
          obtain ⟨c0, c1, c2⟩ := S.c3 4 rfl; obtain ⟨f0, f1, f2⟩ := S.f3 4 rfl
          go_simp; clear hS c0 f0 c1 f1 c2 f2
          have HP := S.put3 4 (.bool b5) (.slice p5 l5 K5) (.int .i64 e5) rfl rfl; have H := HP.2; replace S := HP.1; clear HP
          refine iw7 H n1 n2 n3 n4 n5 n6 HH ?_; clear n1 n2 n3 n4 n5 n6 HH H; intro n1 n2 n3 n4 n5 n6 HH
          refine ho hKK (con6 (S.c6 0 rfl) (S.c6 1 rfl)) fun hS => ?_
          generalize (((w28.setCell ⟨w22.heap.size, 0, none⟩ (.bool b5)).setCell ⟨w22.heap.size, 1, none⟩ (.slice p5 l5 K5)).setCell ⟨w22.heap.size, 2, none⟩ (.int .i64 e5)) = w29 at S n1 n2 n3 n4 n5 n6 HH hS ⊢
          clear hKK KK
          refine rd 13 fun KK hKK => ?_
          obtain ⟨c0, c1, c2⟩ := S.c3 3 rfl; obtain ⟨f0, f1, f2⟩ := S.f3 3 rfl
          go_simp; clear hS c0 f0 c1 f1 c2 f2
          have HP := S.put3 3 (.bool b6) (.slice p6 l6 K6) (.int .i64 e6) rfl rfl; have H := HP.2; replace S := HP.1; clear HP
          refine iw7 H n1 n2 n3 n4 n5 n6 HH ?_; clear n1 n2 n3 n4 n5 n6 HH H; intro n1 n2 n3 n4 n5 n6 HH
          refine ho hKK (con6 (S.c6 0 rfl) (S.c6 1 rfl)) fun hS => ?_
          generalize (((w29.setCell ⟨w3.heap.size, 0, none⟩ (.bool b6)).setCell ⟨w3.heap.size, 1, none⟩ (.slice p6 l6 K6)).setCell ⟨w3.heap.size, 2, none⟩ (.int .i64 e6)) = w30 at S n1 n2 n3 n4 n5 n6 HH hS ⊢
          clear hKK KK
          refine wpAnyH_done (by kernel_rfl) ?_ _
          go_wp2_with fail
          go_meet
          case rel => exact ⟨w22.heap.size, w3.heap.size, b5, p5, l5, K5, m5, e5, b6, p6, l6, K6, m6, e6, rfl, rfl, Su.of S [0, 1, 2, 4, 3] rfl, h5, n5, d5, h6, n6, d6, HH⟩
    ·
      go_simp; clear hS
      have H := S.hnew 27 [.bool false, .slice none 0 0, .int .i64 0]
      replace S := S.al 27 [.bool false, .slice none 0 0, .int .i64 0] (w2.heap.size)
      refine iv4 H n1 n2 n3 n4 ?_; clear n1 n2 n3 n4; intro n1 n2 n3 n4; replace HH := HH.trans H.to32; clear H
      refine ho hKK (con6 (S.c6 0 rfl) (S.c6 1 rfl)) fun hS => ?_
      generalize (w2.alloc (.cells #[.bool false, .slice none 0 0, .int .i64 0] 27)) = w31 at S n1 n2 n3 n4 HH hS ⊢
      clear hKK KK
      refine wpAnyH_ready (rs := [4, 11]) (by kernel_rfl) (by simp) (AllReadyH.cons (opOf rfl) (fun KK hKK => ?_) (AllReadyH.cons (opOf rfl) (fun KK hKK => ?_) AllReadyH.nil))
      ·
        go_simp; clear hS
        refine S.cl (dmax_any ⟨b1, p1, l1, K1, m1, e1, rfl, h1, n1, d1⟩ ⟨b3, p3, l3, K3, m3, e3, rfl, h3, n3, d3⟩ HK.out) ?_; clear S; rintro e w32 ⟨_, rfl, b5, p5, l5, K5, m5, e5, rfl, h5, n5, d5⟩ S H
        refine iv4 H n1 n2 n3 n4 ?_; clear n1 n2 n3 n4; intro n1 n2 n3 n4; replace HH := HH.trans H.to32; clear H
        go_wp2_with fail
        refine ho hKK (con6 (S.c6 0 rfl) (S.c6 1 rfl)) fun hS => ?_
        clear hKK KK
        refine wpAnyH_ready (rs := [9, 11]) (by kernel_rfl) (by simp) (AllReadyH.cons (opOf rfl) (fun KK hKK => ?_) (AllReadyH.cons (opOf rfl) (fun KK hKK => ?_) AllReadyH.nil))
        ·
          go_simp; clear hS
          refine S.cl (dmin_any ⟨b2, p2, l2, K2, m2, e2, rfl, h2, n2, d2⟩ ⟨b4, p4, l4, K4, m4, e4, rfl, h4, n4, d4⟩ HK.out) ?_; clear S; rintro e w33 ⟨_, rfl, b6, p6, l6, K6, m6, e6, rfl, h6, n6, d6⟩ S H
          refine iv5 H n1 n2 n3 n4 n5 ?_; clear n1 n2 n3 n4 n5; intro n1 n2 n3 n4 n5; replace HH := HH.trans H.to32; clear H
          go_wp2_with fail
          refine ho hKK (con6 (S.c6 0 rfl) (S.c6 1 rfl)) fun hS => ?_
          clear hKK KK
          refine rd 11 fun KK hKK => ?_
          go_simp; clear hS
          have H := S.hnew 27 [.bool false, .slice none 0 0, .int .i64 0]
          replace S := S.al 27 [.bool false, .slice none 0 0, .int .i64 0] (w33.heap.size)
          refine iv6 H n1 n2 n3 n4 n5 n6 ?_; clear n1 n2 n3 n4 n5 n6; intro n1 n2 n3 n4 n5 n6; replace HH := HH.trans H.to32; clear H
          refine ho hKK (con6 (S.c6 0 rfl) (S.c6 1 rfl)) fun hS => ?_
          generalize (w33.alloc (.cells #[.bool false, .slice none 0 0, .int .i64 0] 27)) = w34 at S n1 n2 n3 n4 n5 n6 HH hS ⊢
          clear hKK KK
          refine rd 12 fun KK hKK => ?_
          obtain ⟨c0, c1, c2⟩ := S.c3 3 rfl; obtain ⟨f0, f1, f2⟩ := S.f3 3 rfl
          go_simp; clear hS c0 f0 c1 f1 c2 f2
          have HP := S.put3 3 (.bool b5) (.slice p5 l5 K5) (.int .i64 e5) rfl rfl; have H := HP.2; replace S := HP.1; clear HP
          refine iw7 H n1 n2 n3 n4 n5 n6 HH ?_; clear n1 n2 n3 n4 n5 n6 HH H; intro n1 n2 n3 n4 n5 n6 HH
          refine ho hKK (con6 (S.c6 0 rfl) (S.c6 1 rfl)) fun hS => ?_
          generalize (((w34.setCell ⟨w2.heap.size, 0, none⟩ (.bool b5)).setCell ⟨w2.heap.size, 1, none⟩ (.slice p5 l5 K5)).setCell ⟨w2.heap.size, 2, none⟩ (.int .i64 e5)) = w35 at S n1 n2 n3 n4 n5 n6 HH hS ⊢
          clear hKK KK
          refine rd 13 fun KK hKK => ?_
          obtain ⟨c0, c1, c2⟩ := S.c3 4 rfl; obtain ⟨f0, f1, f2⟩ := S.f3 4 rfl
          go_simp; clear hS c0 f0 c1 f1 c2 f2
          have HP := S.put3 4 (.bool b6) (.slice p6 l6 K6) (.int .i64 e6) rfl rfl; have H := HP.2; replace S := HP.1; clear HP
          refine iw7 H n1 n2 n3 n4 n5 n6 HH ?_; clear n1 n2 n3 n4 n5 n6 HH H; intro n1 n2 n3 n4 n5 n6 HH
          refine ho hKK (con6 (S.c6 0 rfl) (S.c6 1 rfl)) fun hS => ?_
          generalize (((w35.setCell ⟨w33.heap.size, 0, none⟩ (.bool b6)).setCell ⟨w33.heap.size, 1, none⟩ (.slice p6 l6 K6)).setCell ⟨w33.heap.size, 2, none⟩ (.int .i64 e6)) = w36 at S n1 n2 n3 n4 n5 n6 HH hS ⊢
          clear hKK KK
          refine wpAnyH_done (by kernel_rfl) ?_ _
          go_wp2_with fail
          go_meet
          case rel => exact ⟨w2.heap.size, w33.heap.size, b5, p5, l5, K5, m5, e5, b6, p6, l6, K6, m6, e6, rfl, rfl, Su.of S [0, 1, 2, 3, 4] rfl, h5, n5, d5, h6, n6, d6, HH⟩
        ·
          go_simp; clear hS
          have H := S.hnew 27 [.bool false, .slice none 0 0, .int .i64 0]
          replace S := S.al 27 [.bool false, .slice none 0 0, .int .i64 0] (w32.heap.size)
          refine iv5 H n1 n2 n3 n4 n5 ?_; clear n1 n2 n3 n4 n5; intro n1 n2 n3 n4 n5; replace HH := HH.trans H.to32; clear H
          refine ho hKK (con6 (S.c6 0 rfl) (S.c6 1 rfl)) fun hS => ?_
          generalize (w32.alloc (.cells #[.bool false, .slice none 0 0, .int .i64 0] 27)) = w37 at S n1 n2 n3 n4 n5 HH hS ⊢
          clear hKK KK
          refine rd 9 fun KK hKK => ?_
          go_simp; clear hS
          refine S.cl (dmin_any ⟨b2, p2, l2, K2, m2, e2, rfl, h2, n2, d2⟩ ⟨b4, p4, l4, K4, m4, e4, rfl, h4, n4, d4⟩ HK.out) ?_; clear S; rintro e w38 ⟨_, rfl, b6, p6, l6, K6, m6, e6, rfl, h6, n6, d6⟩ S H
          refine iv5 H n1 n2 n3 n4 n5 ?_; clear n1 n2 n3 n4 n5; intro n1 n2 n3 n4 n5; replace HH := HH.trans H.to32; clear H
          go_wp2_with fail
          refine ho hKK (con6 (S.c6 0 rfl) (S.c6 1 rfl)) fun hS => ?_
          clear hKK KK
          refine rd 12 fun KK hKK => ?_
          obtain ⟨c0, c1, c2⟩ := S.c3 3 rfl; obtain ⟨f0, f1, f2⟩ := S.f3 3 rfl
          go_simp; clear hS c0 f0 c1 f1 c2 f2
          have HP := S.put3 3 (.bool b5) (.slice p5 l5 K5) (.int .i64 e5) rfl rfl; have H := HP.2; replace S := HP.1; clear HP
          refine iw7 H n1 n2 n3 n4 n5 n6 HH ?_; clear n1 n2 n3 n4 n5 n6 HH H; intro n1 n2 n3 n4 n5 n6 HH
          refine ho hKK (con6 (S.c6 0 rfl) (S.c6 1 rfl)) fun hS => ?_
          generalize (((w38.setCell ⟨w2.heap.size, 0, none⟩ (.bool b5)).setCell ⟨w2.heap.size, 1, none⟩ (.slice p5 l5 K5)).setCell ⟨w2.heap.size, 2, none⟩ (.int .i64 e5)) = w39 at S n1 n2 n3 n4 n5 n6 HH hS ⊢
          clear hKK KK
          refine rd 13 fun KK hKK => ?_
          obtain ⟨c0, c1, c2⟩ := S.c3 4 rfl; obtain ⟨f0, f1, f2⟩ := S.f3 4 rfl
          go_simp; clear hS c0 f0 c1 f1 c2 f2
          have HP := S.put3 4 (.bool b6) (.slice p6 l6 K6) (.int .i64 e6) rfl rfl; have H := HP.2; replace S := HP.1; clear HP
          refine iw7 H n1 n2 n3 n4 n5 n6 HH ?_; clear n1 n2 n3 n4 n5 n6 HH H; intro n1 n2 n3 n4 n5 n6 HH
          refine ho hKK (con6 (S.c6 0 rfl) (S.c6 1 rfl)) fun hS => ?_
          generalize (((w39.setCell ⟨w32.heap.size, 0, none⟩ (.bool b6)).setCell ⟨w32.heap.size, 1, none⟩ (.slice p6 l6 K6)).setCell ⟨w32.heap.size, 2, none⟩ (.int .i64 e6)) = w40 at S n1 n2 n3 n4 n5 n6 HH hS ⊢
          clear hKK KK
          refine wpAnyH_done (by kernel_rfl) ?_ _
          go_wp2_with fail
          go_meet
          case rel => exact ⟨w2.heap.size, w32.heap.size, b5, p5, l5, K5, m5, e5, b6, p6, l6, K6, m6, e6, rfl, rfl, Su.of S [0, 1, 2, 3, 4] rfl, h5, n5, d5, h6, n6, d6, HH⟩
      ·
        go_simp; clear hS
        have H := S.hnew 27 [.bool false, .slice none 0 0, .int .i64 0]
        replace S := S.al 27 [.bool false, .slice none 0 0, .int .i64 0] (w31.heap.size)
        refine iv4 H n1 n2 n3 n4 ?_; clear n1 n2 n3 n4; intro n1 n2 n3 n4; replace HH := HH.trans H.to32; clear H
        refine ho hKK (con6 (S.c6 0 rfl) (S.c6 1 rfl)) fun hS => ?_
        generalize (w31.alloc (.cells #[.bool false, .slice none 0 0, .int .i64 0] 27)) = w41 at S n1 n2 n3 n4 HH hS ⊢
        clear hKK KK
        refine rd 4 fun KK hKK => ?_
        go_simp; clear hS
        refine S.cl (dmax_any ⟨b1, p1, l1, K1, m1, e1, rfl, h1, n1, d1⟩ ⟨b3, p3, l3, K3, m3, e3, rfl, h3, n3, d3⟩ HK.out) ?_; clear S; rintro e w42 ⟨_, rfl, b5, p5, l5, K5, m5, e5, rfl, h5, n5, d5⟩ S H
        refine iv4 H n1 n2 n3 n4 ?_; clear n1 n2 n3 n4; intro n1 n2 n3 n4; replace HH := HH.trans H.to32; clear H
        go_wp2_with fail
        refine ho hKK (con6 (S.c6 0 rfl) (S.c6 1 rfl)) fun hS => ?_
        clear hKK KK
        refine rd 9 fun KK hKK => ?_
        go_simp; clear hS
        refine S.cl (dmin_any ⟨b2, p2, l2, K2, m2, e2, rfl, h2, n2, d2⟩ ⟨b4, p4, l4, K4, m4, e4, rfl, h4, n4, d4⟩ HK.out) ?_; clear S; rintro e w43 ⟨_, rfl, b6, p6, l6, K6, m6, e6, rfl, h6, n6, d6⟩ S H
        refine iv5 H n1 n2 n3 n4 n5 ?_; clear n1 n2 n3 n4 n5; intro n1 n2 n3 n4 n5; replace HH := HH.trans H.to32; clear H
        go_wp2_with fail
        refine ho hKK (con6 (S.c6 0 rfl) (S.c6 1 rfl)) fun hS => ?_
        clear hKK KK
        refine rd 12 fun KK hKK => ?_
        obtain ⟨c0, c1, c2⟩ := S.c3 3 rfl; obtain ⟨f0, f1, f2⟩ := S.f3 3 rfl
        go_simp; clear hS c0 f0 c1 f1 c2 f2
        have HP := S.put3 3 (.bool b5) (.slice p5 l5 K5) (.int .i64 e5) rfl rfl; have H := HP.2; replace S := HP.1; clear HP
        refine iw7 H n1 n2 n3 n4 n5 n6 HH ?_; clear n1 n2 n3 n4 n5 n6 HH H; intro n1 n2 n3 n4 n5 n6 HH
        refine ho hKK (con6 (S.c6 0 rfl) (S.c6 1 rfl)) fun hS => ?_
        generalize (((w43.setCell ⟨w2.heap.size, 0, none⟩ (.bool b5)).setCell ⟨w2.heap.size, 1, none⟩ (.slice p5 l5 K5)).setCell ⟨w2.heap.size, 2, none⟩ (.int .i64 e5)) = w44 at S n1 n2 n3 n4 n5 n6 HH hS ⊢
        clear hKK KK
        refine rd 13 fun KK hKK => ?_
        obtain ⟨c0, c1, c2⟩ := S.c3 4 rfl; obtain ⟨f0, f1, f2⟩ := S.f3 4 rfl
        go_simp; clear hS c0 f0 c1 f1 c2 f2
        have HP := S.put3 4 (.bool b6) (.slice p6 l6 K6) (.int .i64 e6) rfl rfl; have H := HP.2; replace S := HP.1; clear HP
        refine iw7 H n1 n2 n3 n4 n5 n6 HH ?_; clear n1 n2 n3 n4 n5 n6 HH H; intro n1 n2 n3 n4 n5 n6 HH
        refine ho hKK (con6 (S.c6 0 rfl) (S.c6 1 rfl)) fun hS => ?_
        generalize (((w44.setCell ⟨w31.heap.size, 0, none⟩ (.bool b6)).setCell ⟨w31.heap.size, 1, none⟩ (.slice p6 l6 K6)).setCell ⟨w31.heap.size, 2, none⟩ (.int .i64 e6)) = w45 at S n1 n2 n3 n4 n5 n6 HH hS ⊢
        clear hKK KK
        refine wpAnyH_done (by kernel_rfl) ?_ _
        go_wp2_with fail
        go_meet
        case rel => exact ⟨w2.heap.size, w31.heap.size, b5, p5, l5, K5, m5, e5, b6, p6, l6, K6, m6, e6, rfl, rfl, Su.of S [0, 1, 2, 3, 4] rfl, h5, n5, d5, h6, n6, d6, HH⟩
    ·
      go_simp; clear hS
      have H := S.hnew 27 [.bool false, .slice none 0 0, .int .i64 0]
      replace S := S.al 27 [.bool false, .slice none 0 0, .int .i64 0] (w2.heap.size)
      refine iv4 H n1 n2 n3 n4 ?_; clear n1 n2 n3 n4; intro n1 n2 n3 n4; replace HH := HH.trans H.to32; clear H
      refine ho hKK (con6 (S.c6 0 rfl) (S.c6 1 rfl)) fun hS => ?_
      generalize (w2.alloc (.cells #[.bool false, .slice none 0 0, .int .i64 0] 27)) = w46 at S n1 n2 n3 n4 HH hS ⊢
      clear hKK KK
      refine wpAnyH_ready (rs := [4, 10]) (by kernel_rfl) (by simp) (AllReadyH.cons (opOf rfl) (fun KK hKK => ?_) (AllReadyH.cons (opOf rfl) (fun KK hKK => ?_) AllReadyH.nil))
      ·
        go_simp; clear hS
        refine S.cl (dmax_any ⟨b1, p1, l1, K1, m1, e1, rfl, h1, n1, d1⟩ ⟨b3, p3, l3, K3, m3, e3, rfl, h3, n3, d3⟩ HK.out) ?_; clear S; rintro e w47 ⟨_, rfl, b5, p5, l5, K5, m5, e5, rfl, h5, n5, d5⟩ S H
        refine iv4 H n1 n2 n3 n4 ?_; clear n1 n2 n3 n4; intro n1 n2 n3 n4; replace HH := HH.trans H.to32; clear H
        go_wp2_with fail
        refine ho hKK (con6 (S.c6 0 rfl) (S.c6 1 rfl)) fun hS => ?_
        clear hKK KK
        refine wpAnyH_ready (rs := [9, 10]) (by kernel_rfl) (by simp) (AllReadyH.cons (opOf rfl) (fun KK hKK => ?_) (AllReadyH.cons (opOf rfl) (fun KK hKK => ?_) AllReadyH.nil))
        ·
          go_simp; clear hS
          refine S.cl (dmin_any ⟨b2, p2, l2, K2, m2, e2, rfl, h2, n2, d2⟩ ⟨b4, p4, l4, K4, m4, e4, rfl, h4, n4, d4⟩ HK.out) ?_; clear S; rintro e w48 ⟨_, rfl, b6, p6, l6, K6, m6, e6, rfl, h6, n6, d6⟩ S H
          refine iv5 H n1 n2 n3 n4 n5 ?_; clear n1 n2 n3 n4 n5; intro n1 n2 n3 n4 n5; replace HH := HH.trans H.to32; clear H
          go_wp2_with fail
          refine ho hKK (con6 (S.c6 0 rfl) (S.c6 1 rfl)) fun hS => ?_
          clear hKK KK
          refine rd 10 fun KK hKK => ?_
          go_simp; clear hS
          have H := S.hnew 27 [.bool false, .slice none 0 0, .int .i64 0]
          replace S := S.al 27 [.bool false, .slice none 0 0, .int .i64 0] (w48.heap.size)
          refine iv6 H n1 n2 n3 n4 n5 n6 ?_; clear n1 n2 n3 n4 n5 n6; intro n1 n2 n3 n4 n5 n6; replace HH := HH.trans H.to32; clear H
          refine ho hKK (con6 (S.c6 0 rfl) (S.c6 1 rfl)) fun hS => ?_
          generalize (w48.alloc (.cells #[.bool false, .slice none 0 0, .int .i64 0] 27)) = w49 at S n1 n2 n3 n4 n5 n6 HH hS ⊢
          clear hKK KK
          refine rd 12 fun KK hKK => ?_
          obtain ⟨c0, c1, c2⟩ := S.c3 4 rfl; obtain ⟨f0, f1, f2⟩ := S.f3 4 rfl
          go_simp; clear hS c0 f0 c1 f1 c2 f2
          have HP := S.put3 4 (.bool b5) (.slice p5 l5 K5) (.int .i64 e5) rfl rfl; have H := HP.2; replace S := HP.1; clear HP
          refine iw7 H n1 n2 n3 n4 n5 n6 HH ?_; clear n1 n2 n3 n4 n5 n6 HH H; intro n1 n2 n3 n4 n5 n6 HH
          refine ho hKK (con6 (S.c6 0 rfl) (S.c6 1 rfl)) fun hS => ?_
          generalize (((w49.setCell ⟨w48.heap.size, 0, none⟩ (.bool b5)).setCell ⟨w48.heap.size, 1, none⟩ (.slice p5 l5 K5)).setCell ⟨w48.heap.size, 2, none⟩ (.int .i64 e5)) = w50 at S n1 n2 n3 n4 n5 n6 HH hS ⊢
          clear hKK KK
          refine rd 13 fun KK hKK => ?_
          obtain ⟨c0, c1, c2⟩ := S.c3 3 rfl; obtain ⟨f0, f1, f2⟩ := S.f3 3 rfl
          go_simp; clear hS c0 f0 c1 f1 c2 f2
          have HP := S.put3 3 (.bool b6) (.slice p6 l6 K6) (.int .i64 e6) rfl rfl; have H := HP.2; replace S := HP.1; clear HP
          refine iw7 H n1 n2 n3 n4 n5 n6 HH ?_; clear n1 n2 n3 n4 n5 n6 HH H; intro n1 n2 n3 n4 n5 n6 HH
          refine ho hKK (con6 (S.c6 0 rfl) (S.c6 1 rfl)) fun hS => ?_
          generalize (((w50.setCell ⟨w2.heap.size, 0, none⟩ (.bool b6)).setCell ⟨w2.heap.size, 1, none⟩ (.slice p6 l6 K6)).setCell ⟨w2.heap.size, 2, none⟩ (.int .i64 e6)) = w51 at S n1 n2 n3 n4 n5 n6 HH hS ⊢
          clear hKK KK
          refine wpAnyH_done (by kernel_rfl) ?_ _
          go_wp2_with fail
          go_meet
          case rel => exact ⟨w48.heap.size, w2.heap.size, b5, p5, l5, K5, m5, e5, b6, p6, l6, K6, m6, e6, rfl, rfl, Su.of S [0, 1, 2, 4, 3] rfl, h5, n5, d5, h6, n6, d6, HH⟩
        ·
          go_simp; clear hS
          have H := S.hnew 27 [.bool false, .slice none 0 0, .int .i64 0]
          replace S := S.al 27 [.bool false, .slice none 0 0, .int .i64 0] (w47.heap.size)
          refine iv5 H n1 n2 n3 n4 n5 ?_; clear n1 n2 n3 n4 n5; intro n1 n2 n3 n4 n5; replace HH := HH.trans H.to32; clear H
          refine ho hKK (con6 (S.c6 0 rfl) (S.c6 1 rfl)) fun hS => ?_
          generalize (w47.alloc (.cells #[.bool false, .slice none 0 0, .int .i64 0] 27)) = w52 at S n1 n2 n3 n4 n5 HH hS ⊢
          clear hKK KK
          refine rd 9 fun KK hKK => ?_
          go_simp; clear hS
          refine S.cl (dmin_any ⟨b2, p2, l2, K2, m2, e2, rfl, h2, n2, d2⟩ ⟨b4, p4, l4, K4, m4, e4, rfl, h4, n4, d4⟩ HK.out) ?_; clear S; rintro e w53 ⟨_, rfl, b6, p6, l6, K6, m6, e6, rfl, h6, n6, d6⟩ S H
          refine iv5 H n1 n2 n3 n4 n5 ?_; clear n1 n2 n3 n4 n5; intro n1 n2 n3 n4 n5; replace HH := HH.trans H.to32; clear H
          go_wp2_with fail
          refine ho hKK (con6 (S.c6 0 rfl) (S.c6 1 rfl)) fun hS => ?_
          clear hKK KK
          refine rd 12 fun KK hKK => ?_
          obtain ⟨c0, c1, c2⟩ := S.c3 4 rfl; obtain ⟨f0, f1, f2⟩ := S.f3 4 rfl
          go_simp; clear hS c0 f0 c1 f1 c2 f2
          have HP := S.put3 4 (.bool b5) (.slice p5 l5 K5) (.int .i64 e5) rfl rfl; have H := HP.2; replace S := HP.1; clear HP
          refine iw7 H n1 n2 n3 n4 n5 n6 HH ?_; clear n1 n2 n3 n4 n5 n6 HH H; intro n1 n2 n3 n4 n5 n6 HH
          refine ho hKK (con6 (S.c6 0 rfl) (S.c6 1 rfl)) fun hS => ?_
          generalize (((w53.setCell ⟨w47.heap.size, 0, none⟩ (.bool b5)).setCell ⟨w47.heap.size, 1, none⟩ (.slice p5 l5 K5)).setCell ⟨w47.heap.size, 2, none⟩ (.int .i64 e5)) = w54 at S n1 n2 n3 n4 n5 n6 HH hS ⊢
          clear hKK KK
          refine rd 13 fun KK hKK => ?_
          obtain ⟨c0, c1, c2⟩ := S.c3 3 rfl; obtain ⟨f0, f1, f2⟩ := S.f3 3 rfl
          go_simp; clear hS c0 f0 c1 f1 c2 f2
          have HP := S.put3 3 (.bool b6) (.slice p6 l6 K6) (.int .i64 e6) rfl rfl; have H := HP.2; replace S := HP.1; clear HP
          refine iw7 H n1 n2 n3 n4 n5 n6 HH ?_; clear n1 n2 n3 n4 n5 n6 HH H; intro n1 n2 n3 n4 n5 n6 HH
          refine ho hKK (con6 (S.c6 0 rfl) (S.c6 1 rfl)) fun hS => ?_
          generalize (((w54.setCell ⟨w2.heap.size, 0, none⟩ (.bool b6)).setCell ⟨w2.heap.size, 1, none⟩ (.slice p6 l6 K6)).setCell ⟨w2.heap.size, 2, none⟩ (.int .i64 e6)) = w55 at S n1 n2 n3 n4 n5 n6 HH hS ⊢
          clear hKK KK
          refine wpAnyH_done (by kernel_rfl) ?_ _
          go_wp2_with fail
          go_meet
          case rel => exact ⟨w47.heap.size, w2.heap.size, b5, p5, l5, K5, m5, e5, b6, p6, l6, K6, m6, e6, rfl, rfl, Su.of S [0, 1, 2, 4, 3] rfl, h5, n5, d5, h6, n6, d6, HH⟩
      ·
        go_simp; clear hS
        have H := S.hnew 27 [.bool false, .slice none 0 0, .int .i64 0]
        replace S := S.al 27 [.bool false, .slice none 0 0, .int .i64 0] (w46.heap.size)
        refine iv4 H n1 n2 n3 n4 ?_; clear n1 n2 n3 n4; intro n1 n2 n3 n4; replace HH := HH.trans H.to32; clear H
        refine ho hKK (con6 (S.c6 0 rfl) (S.c6 1 rfl)) fun hS => ?_
        generalize (w46.alloc (.cells #[.bool false, .slice none 0 0, .int .i64 0] 27)) = w56 at S n1 n2 n3 n4 HH hS ⊢
        clear hKK KK
        refine rd 4 fun KK hKK => ?_
        go_simp; clear hS
        refine S.cl (dmax_any ⟨b1, p1, l1, K1, m1, e1, rfl, h1, n1, d1⟩ ⟨b3, p3, l3, K3, m3, e3, rfl, h3, n3, d3⟩ HK.out) ?_; clear S; rintro e w57 ⟨_, rfl, b5, p5, l5, K5, m5, e5, rfl, h5, n5, d5⟩ S H
        refine iv4 H n1 n2 n3 n4 ?_; clear n1 n2 n3 n4; intro n1 n2 n3 n4; replace HH := HH.trans H.to32; clear H
        go_wp2_with fail
        refine ho hKK (con6 (S.c6 0 rfl) (S.c6 1 rfl)) fun hS => ?_
        clear hKK KK
        refine rd 9 fun KK hKK => ?_
        go_simp; clear hS
        refine S.cl (dmin_any ⟨b2, p2, l2, K2, m2, e2, rfl, h2, n2, d2⟩ ⟨b4, p4, l4, K4, m4, e4, rfl, h4, n4, d4⟩ HK.out) ?_; clear S; rintro e w58 ⟨_, rfl, b6, p6, l6, K6, m6, e6, rfl, h6, n6, d6⟩ S H
        refine iv5 H n1 n2 n3 n4 n5 ?_; clear n1 n2 n3 n4 n5; intro n1 n2 n3 n4 n5; replace HH := HH.trans H.to32; clear H
        go_wp2_with fail
        refine ho hKK (con6 (S.c6 0 rfl) (S.c6 1 rfl)) fun hS => ?_
        clear hKK KK
        refine rd 12 fun KK hKK => ?_
        obtain ⟨c0, c1, c2⟩ := S.c3 4 rfl; obtain ⟨f0, f1, f2⟩ := S.f3 4 rfl
        go_simp; clear hS c0 f0 c1 f1 c2 f2
        have HP := S.put3 4 (.bool b5) (.slice p5 l5 K5) (.int .i64 e5) rfl rfl; have H := HP.2; replace S := HP.1; clear HP
        refine iw7 H n1 n2 n3 n4 n5 n6 HH ?_; clear n1 n2 n3 n4 n5 n6 HH H; intro n1 n2 n3 n4 n5 n6 HH
        refine ho hKK (con6 (S.c6 0 rfl) (S.c6 1 rfl)) fun hS => ?_
        generalize (((w58.setCell ⟨w46.heap.size, 0, none⟩ (.bool b5)).setCell ⟨w46.heap.size, 1, none⟩ (.slice p5 l5 K5)).setCell ⟨w46.heap.size, 2, none⟩ (.int .i64 e5)) = w59 at S n1 n2 n3 n4 n5 n6 HH hS ⊢
        clear hKK KK
        refine rd 13 fun KK hKK => ?_
        obtain ⟨c0, c1, c2⟩ := S.c3 3 rfl; obtain ⟨f0, f1, f2⟩ := S.f3 3 rfl
        go_simp; clear hS c0 f0 c1 f1 c2 f2
        have HP := S.put3 3 (.bool b6) (.slice p6 l6 K6) (.int .i64 e6) rfl rfl; have H := HP.2; replace S := HP.1; clear HP
        refine iw7 H n1 n2 n3 n4 n5 n6 HH ?_; clear n1 n2 n3 n4 n5 n6 HH H; intro n1 n2 n3 n4 n5 n6 HH
        refine ho hKK (con6 (S.c6 0 rfl) (S.c6 1 rfl)) fun hS => ?_
        generalize (((w59.setCell ⟨w2.heap.size, 0, none⟩ (.bool b6)).setCell ⟨w2.heap.size, 1, none⟩ (.slice p6 l6 K6)).setCell ⟨w2.heap.size, 2, none⟩ (.int .i64 e6)) = w60 at S n1 n2 n3 n4 n5 n6 HH hS ⊢
        clear hKK KK
        refine wpAnyH_done (by kernel_rfl) ?_ _
        go_wp2_with fail
        go_meet
        case rel => exact ⟨w46.heap.size, w2.heap.size, b5, p5, l5, K5, m5, e5, b6, p6, l6, K6, m6, e6, rfl, rfl, Su.of S [0, 1, 2, 4, 3] rfl, h5, n5, d5, h6, n6, d6, HH⟩
  case rest =>
    obtain ⟨g6, g7, b5, p5, l5, K5, m5, e5, b6, p6, l6, K6, m6, e6, rfl, rfl, S, h5, n5, d5, h6, n6, d6, HH⟩ := hcut
    obtain ⟨w61, rfl⟩ : ∃ W : World, W = wc := ⟨_, rfl⟩
    refine iw4 HH n1 n2 n3 n4 ?_; clear n1 n2 n3 n4 HH; intro n1 n2 n3 n4; have c2_ := S.c6 2 rfl; have c3_ := S.c3 3 rfl; have c4_ := S.c3 4 rfl; go_wp2_with fail; clear c2_ c3_ c4_
    refine S.cl (dless_any ⟨b6, p6, l6, K6, m6, e6, rfl, h6, n6, d6⟩ ⟨b5, p5, l5, K5, m5, e5, rfl, h5, n5, d5⟩ HK.out true hl.out) ?_; clear S; rintro e w62 rfl S H
    refine iv6 H n1 n2 n3 n4 n5 n6 ?_; clear n1 n2 n3 n4 n5 n6; intro n1 n2 n3 n4 n5 n6
    clear H; have c2_ := S.c6 2 rfl; have c3_ := S.c3 3 rfl; have c4_ := S.c3 4 rfl
    obtain ⟨f2_0, f2_1, f2_2, f2_3, f2_4, f2_5⟩ := S.f6 2 rfl
    have HP := S.put6 2 (.bool false) (.slice none 0 0) (.int .i64 0) (.bool false) (.slice none 0 0) (.int .i64 0) rfl rfl; have H := HP.2; replace S := HP.1; clear HP
    refine iw6 H n1 n2 n3 n4 n5 n6 ?_; clear n1 n2 n3 n4 n5 n6; intro n1 n2 n3 n4 n5 n6
    clear H; go_wp2_with fail; obtain ⟨d2_0, d2_1, d2_2, d2_3, d2_4, d2_5⟩ := S.c6 2 rfl
    exact bodyPost_ret (v := .tuple #[.agg #[.bool false, .slice none 0 0, .int .i64 0, .bool false, .slice none 0 0, .int .i64 0], .int .i64 4]) (by simp [results, Tryz.f33, go_sem, d2_0, d2_1, d2_2, d2_3, d2_4, d2_5]) rfl (⟨rfl, S.below⟩)
end Go.Proofs.YtcdmojefheipoaaGreatDoor
