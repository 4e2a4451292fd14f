/-
  What the statement stands on.
-/
import Derived.Test.YtcdmojefheipoaaGreatDoorM19
import Derived.Test.YtcdmojefheipoaaGreatDoorM21
namespace Go.Proofs.YtcdmojefheipoaaGreatDoor
open Go.RowKit
theorem or_two {g : Nat} {w W : World} {L : List (Nat × TypeId × List Value)} (S : St w W L) (i : Nat) {t : TypeId} (hi : L[i]? = some (g, t, [.int .i64 0, .int .i64 0])) :
    Calls Tryz.prog 66 #[.slice (some ⟨g, 0, none⟩) 2 2] W fun e w' => e = .returned (.int .i64 0) ∧ Below W.heap.size W w' :=
  or_zero g 2 W (S.lt i hi) (by decide) fun j hj => by
    match j, hj with
    | 0, _ => exact S.c i 0 hi rfl
    | 1, _ => exact S.c i 1 hi rfl
set_option maxRecDepth 100000 in
set_option maxHeartbeats 4000000 in
theorem cross_any {va vb : Value} {x y : Rat} {w : World} (ha : IsRat w va x) (hb : IsRat w vb y) (h1 : x.num.natAbs < maxN) (h2 : x.den < maxN) (h3 : y.num.natAbs < maxN) (h4 : y.den < maxN) (X Y : Int) (hX : x.num * y.den = X) (hY : y.num * x.den = Y) (hx : X.natAbs < maxN) (hy : Y.natAbs < maxN) :
    Calls Tryz.prog 72 #[va, vb] w fun e w' => (∃ u v, e = .returned (.tuple #[u, v, .int .i64 0]) ∧ IsInt w' u X ∧ IsInt w' v Y) ∧ Below w.heap.size w w' := by
  obtain ⟨b1, p1, l1, K1, q1, j1, J1, rfl, hb1, n1, d1⟩ := ha
  obtain ⟨b2, p2, l2, K2, q2, j2, J2, rfl, hb2, n2, d2⟩ := hb
  have HD := Lib.hid (And.intro h1 (And.intro h2 (And.intro h3 (And.intro h4 (And.intro hX (And.intro hY (And.intro hx hy)))))))
  clear h1 h2 h3 h4 hX hY hx hy
  have S := ((((St.start w).alloc 34 [.bool b1, .slice p1 l1 K1, .slice q1 j1 J1] (w.heap.size)).alloc 34 [.bool b2, .slice p2 l2 K2, .slice q2 j2 J2] (w.heap.size + 1)).alloc 25 [.bool false, .slice none 0 0] (w.heap.size + 1 + 1)).alloc 25 [.bool false, .slice none 0 0] (w.heap.size + 1 + 1 + 1)
  try simp only [List.cons_append, List.nil_append] at S
  refine iv4 S.hold n1 d1 n2 d2 ?_; clear n1 d1 n2 d2; intro n1 d1 n2 d2
  have c0_ := S.c3 0 rfl; have c1_ := S.c3 1 rfl; have c2_ := S.c2 2 rfl; have c3_ := S.c2 3 rfl
  go_enter Tryz.func72, Tryz.ntmps72
  go_upto_region 1 with fail
  clear c0_ c1_ c2_ c3_
  generalize ((((w.alloc (.cells #[.bool b1, .slice p1 l1 K1, .slice q1 j1 J1] 34)).alloc (.cells #[.bool b2, .slice p2 l2 K2, .slice q2 j2 J2] 34)).alloc (.cells #[.bool false, .slice none 0 0] 25)).alloc (.cells #[.bool false, .slice none 0 0] 25)) = w1 at S n1 d1 n2 d2 ⊢
  go_cut [7, 8] (fun s7 s8 wx => ∃ g7 p l K, s7 = .pointer (some ⟨g7, 0, none⟩) ∧ s8 = .int .i64 0 ∧ St w wx [(w.heap.size, 34, [.bool b1, .slice p1 l1 K1, .slice q1 j1 J1]), (w.heap.size + 1, 34, [.bool b2, .slice p2 l2 K2, .slice q2 j2 J2]), (w.heap.size + 1 + 1, 25, [.bool false, .slice none 0 0]), (w.heap.size + 1 + 1 + 1, 25, [.bool false, .slice none 0 0]), (g7, 25, [.bool (negB X), .slice p l K])] ∧ IsNat wx (.slice p l K) X.natAbs ∧ Hold w1 wx)
  case first =>
    have HH := Hold.drew w1
    refine iv4 HH n1 d1 n2 d2 ?_; clear n1 d1 n2 d2; intro n1 d1 n2 d2
    replace S := S.drew
    refine wp_region_held_drew (S := fun W => W.cell? ⟨w.heap.size, 0, none⟩ = some (.bool b1) ∧ W.cell? ⟨w.heap.size, 1, none⟩ = some (.slice p1 l1 K1) ∧ W.cell? ⟨w.heap.size + 1, 2, none⟩ = some (.slice q2 j2 J2)) (by kernel_rfl) ⟨(S.c 0 0 rfl rfl), ⟨(S.c 0 1 rfl rfl), (S.c 1 2 rfl rfl)⟩⟩ (fun hS => ?_)
    generalize w1.drew = w2 at S n1 d1 n2 d2 HH hS ⊢
    refine tk 0 hS ?_
    refine tk 1 hS ?_
    refine tk 2 hS ?_
    refine tk 3 hS ?_
    refine wpAnyH_ready (rs := [4, 9]) (by kernel_rfl) (by simp) (AllReadyH.cons (opOf rfl) (fun KK hKK => ?_) (AllReadyH.cons (opOf rfl) (fun KK hKK => ?_) AllReadyH.nil))
    ·
      go_simp; clear hS
      refine S.cl (wnat_any d2 HD.out.2.2.2.1 (y.den : Int) rfl) ?_; clear S; rintro e w3 ⟨_, rfl, pn, ln, Kn, rfl, nn⟩ S H
      refine iv5 H n1 d1 n2 d2 HH ?_; clear n1 d1 n2 d2 HH H; intro n1 d1 n2 d2 HH
      go_wp2_with fail
      refine ho hKK ⟨(S.c 0 0 rfl rfl), ⟨(S.c 0 1 rfl rfl), (S.c 1 2 rfl rfl)⟩⟩ fun hS => ?_
      clear hKK KK
      refine wpAnyH_ready (rs := [5, 9]) (by kernel_rfl) (by simp) (AllReadyH.cons (opOf rfl) (fun KK hKK => ?_) (AllReadyH.cons (opOf rfl) (fun KK hKK => ?_) AllReadyH.nil))
      ·
        go_simp; clear hS
        refine S.cl (wmul_to ⟨_, _, _, by rw [hb1.out], n1⟩ ⟨_, _, _, rfl, nn⟩ HD.out.1 HD.out.2.2.2.1 X HD.out.2.2.2.2.1 HD.out.2.2.2.2.2.2.1) ?_; clear S; rintro e w4 ⟨_, rfl, p, l, K, rfl, nx⟩ S H
        refine iv6 H n1 d1 n2 d2 nn HH ?_; clear n1 d1 n2 d2 nn HH H; intro n1 d1 n2 d2 nn HH
        go_wp2_with fail
        refine ho hKK ⟨(S.c 0 0 rfl rfl), ⟨(S.c 0 1 rfl rfl), (S.c 1 2 rfl rfl)⟩⟩ fun hS => ?_
        clear hKK KK
        refine tk 6 hS ?_
        refine tk 7 hS ?_
        refine tk 8 hS ?_
        refine rd 9 fun KK hKK => ?_
        go_simp; clear hS
        have H := S.hnew 25 [.bool false, .slice none 0 0]
        replace S := S.al 25 [.bool false, .slice none 0 0] (w4.heap.size)
        refine iv7 H n1 d1 n2 d2 nn nx HH ?_; clear n1 d1 n2 d2 nn nx HH H; intro n1 d1 n2 d2 nn nx HH
        refine ho hKK ⟨(S.c 0 0 rfl rfl), ⟨(S.c 0 1 rfl rfl), (S.c 1 2 rfl rfl)⟩⟩ fun hS => ?_
        generalize (w4.alloc (.cells #[.bool false, .slice none 0 0] 25)) = w5 at S n1 d1 n2 d2 nn nx HH hS ⊢
        clear hKK KK
        refine rd 10 fun KK hKK => ?_
        have c0 := S.c 4 0 rfl rfl; have f0 := S.f 4 0 rfl; have c1 := S.c 4 1 rfl rfl; have f1 := S.f 4 1 rfl; go_simp; clear hS c0 f0 c1 f1
        have H := S.hset 4 0 (.bool (negB X)) rfl rfl (by intro q n e; cases e)
        replace S := S.set 4 0 (.bool (negB X)) rfl
        refine iv7 H n1 d1 n2 d2 nn nx HH ?_; clear n1 d1 n2 d2 nn nx HH H; intro n1 d1 n2 d2 nn nx HH
        have H := S.hset 4 1 (.slice p l K) rfl rfl (by intro q n e; cases e)
        replace S := S.set 4 1 (.slice p l K) rfl
        refine iv7 H n1 d1 n2 d2 nn nx HH ?_; clear n1 d1 n2 d2 nn nx HH H; intro n1 d1 n2 d2 nn nx HH
        refine ho hKK ⟨(S.c 0 0 rfl rfl), ⟨(S.c 0 1 rfl rfl), (S.c 1 2 rfl rfl)⟩⟩ fun hS => ?_
        generalize ((w5.setCell ⟨w4.heap.size, 0, none⟩ (.bool (negB X))).setCell ⟨w4.heap.size, 1, none⟩ (.slice p l K)) = w6 at S n1 d1 n2 d2 nn nx HH hS ⊢
        clear hKK KK
        refine rd 11 fun KK hKK => ?_
        go_simp
        refine ho hKK hS fun hS => ?_
        clear hKK KK
        refine wpAnyH_done (by kernel_rfl) ?_ _
        go_wp2_with fail
        go_meet
        case rel => exact ⟨w4.heap.size, p, l, K, rfl, rfl, S, nx, HH⟩
      ·
        go_simp; clear hS
        have H := S.hnew 25 [.bool false, .slice none 0 0]
        replace S := S.al 25 [.bool false, .slice none 0 0] (w3.heap.size)
        refine iv6 H n1 d1 n2 d2 nn HH ?_; clear n1 d1 n2 d2 nn HH H; intro n1 d1 n2 d2 nn HH
        refine ho hKK ⟨(S.c 0 0 rfl rfl), ⟨(S.c 0 1 rfl rfl), (S.c 1 2 rfl rfl)⟩⟩ fun hS => ?_
        generalize (w3.alloc (.cells #[.bool false, .slice none 0 0] 25)) = w7 at S n1 d1 n2 d2 nn HH hS ⊢
        clear hKK KK
        refine rd 5 fun KK hKK => ?_
        go_simp; clear hS
        refine S.cl (wmul_to ⟨_, _, _, by rw [hb1.out], n1⟩ ⟨_, _, _, rfl, nn⟩ HD.out.1 HD.out.2.2.2.1 X HD.out.2.2.2.2.1 HD.out.2.2.2.2.2.2.1) ?_; clear S; rintro e w8 ⟨_, rfl, p, l, K, rfl, nx⟩ S H
        refine iv6 H n1 d1 n2 d2 nn HH ?_; clear n1 d1 n2 d2 nn HH H; intro n1 d1 n2 d2 nn HH
        go_wp2_with fail
        refine ho hKK ⟨(S.c 0 0 rfl rfl), ⟨(S.c 0 1 rfl rfl), (S.c 1 2 rfl rfl)⟩⟩ fun hS => ?_
        clear hKK KK
        refine tk 6 hS ?_
        refine tk 7 hS ?_
        refine tk 8 hS ?_
        refine rd 10 fun KK hKK => ?_
        have c0 := S.c 4 0 rfl rfl; have f0 := S.f 4 0 rfl; have c1 := S.c 4 1 rfl rfl; have f1 := S.f 4 1 rfl; go_simp; clear hS c0 f0 c1 f1
        have H := S.hset 4 0 (.bool (negB X)) rfl rfl (by intro q n e; cases e)
        replace S := S.set 4 0 (.bool (negB X)) rfl
        refine iv7 H n1 d1 n2 d2 nn nx HH ?_; clear n1 d1 n2 d2 nn nx HH H; intro n1 d1 n2 d2 nn nx HH
        have H := S.hset 4 1 (.slice p l K) rfl rfl (by intro q n e; cases e)
        replace S := S.set 4 1 (.slice p l K) rfl
        refine iv7 H n1 d1 n2 d2 nn nx HH ?_; clear n1 d1 n2 d2 nn nx HH H; intro n1 d1 n2 d2 nn nx HH
        refine ho hKK ⟨(S.c 0 0 rfl rfl), ⟨(S.c 0 1 rfl rfl), (S.c 1 2 rfl rfl)⟩⟩ fun hS => ?_
        generalize ((w8.setCell ⟨w3.heap.size, 0, none⟩ (.bool (negB X))).setCell ⟨w3.heap.size, 1, none⟩ (.slice p l K)) = w9 at S n1 d1 n2 d2 nn nx HH hS ⊢
        clear hKK KK
        refine rd 11 fun KK hKK => ?_
        go_simp
        refine ho hKK hS fun hS => ?_
        clear hKK KK
        refine wpAnyH_done (by kernel_rfl) ?_ _
        go_wp2_with fail
        go_meet
        case rel => exact ⟨w3.heap.size, p, l, K, rfl, rfl, S, nx, HH⟩
    ·
      go_simp; clear hS
      have H := S.hnew 25 [.bool false, .slice none 0 0]
      replace S := S.al 25 [.bool false, .slice none 0 0] (w2.heap.size)
      refine iv5 H n1 d1 n2 d2 HH ?_; clear n1 d1 n2 d2 HH H; intro n1 d1 n2 d2 HH
      refine ho hKK ⟨(S.c 0 0 rfl rfl), ⟨(S.c 0 1 rfl rfl), (S.c 1 2 rfl rfl)⟩⟩ fun hS => ?_
      generalize (w2.alloc (.cells #[.bool false, .slice none 0 0] 25)) = w10 at S n1 d1 n2 d2 HH hS ⊢
      clear hKK KK
      refine rd 4 fun KK hKK => ?_
      go_simp; clear hS
      refine S.cl (wnat_any d2 HD.out.2.2.2.1 (y.den : Int) rfl) ?_; clear S; rintro e w11 ⟨_, rfl, pn, ln, Kn, rfl, nn⟩ S H
      refine iv5 H n1 d1 n2 d2 HH ?_; clear n1 d1 n2 d2 HH H; intro n1 d1 n2 d2 HH
      go_wp2_with fail
      refine ho hKK ⟨(S.c 0 0 rfl rfl), ⟨(S.c 0 1 rfl rfl), (S.c 1 2 rfl rfl)⟩⟩ fun hS => ?_
      clear hKK KK
      refine rd 5 fun KK hKK => ?_
      go_simp; clear hS
      refine S.cl (wmul_to ⟨_, _, _, by rw [hb1.out], n1⟩ ⟨_, _, _, rfl, nn⟩ HD.out.1 HD.out.2.2.2.1 X HD.out.2.2.2.2.1 HD.out.2.2.2.2.2.2.1) ?_; clear S; rintro e w12 ⟨_, rfl, p, l, K, rfl, nx⟩ S H
      refine iv6 H n1 d1 n2 d2 nn HH ?_; clear n1 d1 n2 d2 nn HH H; intro n1 d1 n2 d2 nn HH
      go_wp2_with fail
      refine ho hKK ⟨(S.c 0 0 rfl rfl), ⟨(S.c 0 1 rfl rfl), (S.c 1 2 rfl rfl)⟩⟩ fun hS => ?_
      clear hKK KK
      refine tk 6 hS ?_
      refine tk 7 hS ?_
      refine tk 8 hS ?_
      refine rd 10 fun KK hKK => ?_
      have c0 := S.c 4 0 rfl rfl; have f0 := S.f 4 0 rfl; have c1 := S.c 4 1 rfl rfl; have f1 := S.f 4 1 rfl; go_simp; clear hS c0 f0 c1 f1
      have H := S.hset 4 0 (.bool (negB X)) rfl rfl (by intro q n e; cases e)
      replace S := S.set 4 0 (.bool (negB X)) rfl
      refine iv7 H n1 d1 n2 d2 nn nx HH ?_; clear n1 d1 n2 d2 nn nx HH H; intro n1 d1 n2 d2 nn nx HH
      have H := S.hset 4 1 (.slice p l K) rfl rfl (by intro q n e; cases e)
      replace S := S.set 4 1 (.slice p l K) rfl
      refine iv7 H n1 d1 n2 d2 nn nx HH ?_; clear n1 d1 n2 d2 nn nx HH H; intro n1 d1 n2 d2 nn nx HH
      refine ho hKK ⟨(S.c 0 0 rfl rfl), ⟨(S.c 0 1 rfl rfl), (S.c 1 2 rfl rfl)⟩⟩ fun hS => ?_
      generalize ((w12.setCell ⟨w2.heap.size, 0, none⟩ (.bool (negB X))).setCell ⟨w2.heap.size, 1, none⟩ (.slice p l K)) = w13 at S n1 d1 n2 d2 nn nx HH hS ⊢
      clear hKK KK
      refine rd 11 fun KK hKK => ?_
      go_simp
      refine ho hKK hS fun hS => ?_
      clear hKK KK
      refine wpAnyH_done (by kernel_rfl) ?_ _
      go_wp2_with fail
      go_meet
      case rel => exact ⟨w2.heap.size, p, l, K, rfl, rfl, S, nx, HH⟩
  case rest =>
    obtain ⟨g7, p, l, K, rfl, rfl, S, nx, HH⟩ := hcut
    obtain ⟨w14, rfl⟩ : ∃ W : World, W = wc := ⟨_, rfl⟩
    refine iv4 HH n1 d1 n2 d2 ?_; clear n1 d1 n2 d2 HH; intro n1 d1 n2 d2; have c0_ := S.c3 0 rfl; have c1_ := S.c3 1 rfl; have c2_ := S.c2 2 rfl; have c3_ := S.c2 3 rfl; have c4_ := S.c2 4 rfl
    go_upto_region 2 with fail
    clear c0_ c1_ c2_ c3_ c4_
    go_cut [9, 10] (fun s9 s10 wx => ∃ g9 pb lb Kb, s9 = .pointer (some ⟨g9, 0, none⟩) ∧ s10 = .int .i64 0 ∧ St w wx [(w.heap.size, 34, [.bool b1, .slice p1 l1 K1, .slice q1 j1 J1]), (w.heap.size + 1, 34, [.bool b2, .slice p2 l2 K2, .slice q2 j2 J2]), (w.heap.size + 1 + 1, 25, [.bool false, .slice none 0 0]), (w.heap.size + 1 + 1 + 1, 25, [.bool false, .slice none 0 0]), (g7, 25, [.bool (negB X), .slice p l K]), (g9, 25, [.bool (negB Y), .slice pb lb Kb])] ∧ IsNat wx (.slice pb lb Kb) Y.natAbs ∧ Hold w14 wx)
    case first =>
      have HH := Hold.drew w14
      refine iv5 HH n1 d1 n2 d2 nx ?_; clear n1 d1 n2 d2 nx; intro n1 d1 n2 d2 nx
      replace S := S.drew
      refine wp_region_held_drew (S := fun W => W.cell? ⟨w.heap.size + 1, 0, none⟩ = some (.bool b2) ∧ W.cell? ⟨w.heap.size + 1, 1, none⟩ = some (.slice p2 l2 K2) ∧ W.cell? ⟨w.heap.size, 2, none⟩ = some (.slice q1 j1 J1)) (by kernel_rfl) ⟨(S.c 1 0 rfl rfl), ⟨(S.c 1 1 rfl rfl), (S.c 0 2 rfl rfl)⟩⟩ (fun hS => ?_)
      generalize w14.drew = w15 at S n1 d1 n2 d2 nx HH hS ⊢
      refine tk 0 hS ?_
      refine tk 1 hS ?_
      refine tk 2 hS ?_
      refine tk 3 hS ?_
      refine wpAnyH_ready (rs := [4, 9]) (by kernel_rfl) (by simp) (AllReadyH.cons (opOf rfl) (fun KK hKK => ?_) (AllReadyH.cons (opOf rfl) (fun KK hKK => ?_) AllReadyH.nil))
      ·
        go_simp; clear hS
        refine S.cl (wnat_any d1 HD.out.2.1 (x.den : Int) rfl) ?_; clear S; rintro e w16 ⟨_, rfl, pn, ln, Kn, rfl, nn⟩ S H
        refine iv6 H n1 d1 n2 d2 nx HH ?_; clear n1 d1 n2 d2 nx HH H; intro n1 d1 n2 d2 nx HH
        go_wp2_with fail
        refine ho hKK ⟨(S.c 1 0 rfl rfl), ⟨(S.c 1 1 rfl rfl), (S.c 0 2 rfl rfl)⟩⟩ fun hS => ?_
        clear hKK KK
        refine wpAnyH_ready (rs := [5, 9]) (by kernel_rfl) (by simp) (AllReadyH.cons (opOf rfl) (fun KK hKK => ?_) (AllReadyH.cons (opOf rfl) (fun KK hKK => ?_) AllReadyH.nil))
        ·
          go_simp; clear hS
          refine S.cl (wmul_to ⟨_, _, _, by rw [hb2.out], n2⟩ ⟨_, _, _, rfl, nn⟩ HD.out.2.2.1 HD.out.2.1 Y HD.out.2.2.2.2.2.1 HD.out.2.2.2.2.2.2.2) ?_; clear S; rintro e w17 ⟨_, rfl, pb, lb, Kb, rfl, ny⟩ S H
          refine iv7 H n1 d1 n2 d2 nx nn HH ?_; clear n1 d1 n2 d2 nx nn HH H; intro n1 d1 n2 d2 nx nn HH
          go_wp2_with fail
          refine ho hKK ⟨(S.c 1 0 rfl rfl), ⟨(S.c 1 1 rfl rfl), (S.c 0 2 rfl rfl)⟩⟩ fun hS => ?_
          clear hKK KK
          refine tk 6 hS ?_
          refine tk 7 hS ?_
          refine tk 8 hS ?_
          refine rd 9 fun KK hKK => ?_
          go_simp; clear hS
          have H := S.hnew 25 [.bool false, .slice none 0 0]
          replace S := S.al 25 [.bool false, .slice none 0 0] (w17.heap.size)
          refine iv8 H n1 d1 n2 d2 nx nn ny HH ?_; clear n1 d1 n2 d2 nx nn ny HH H; intro n1 d1 n2 d2 nx nn ny HH
          refine ho hKK ⟨(S.c 1 0 rfl rfl), ⟨(S.c 1 1 rfl rfl), (S.c 0 2 rfl rfl)⟩⟩ fun hS => ?_
          generalize (w17.alloc (.cells #[.bool false, .slice none 0 0] 25)) = w18 at S n1 d1 n2 d2 nx nn ny HH hS ⊢
          clear hKK KK
          refine rd 10 fun KK hKK => ?_
          have c0 := S.c 5 0 rfl rfl; have f0 := S.f 5 0 rfl; have c1 := S.c 5 1 rfl rfl; have f1 := S.f 5 1 rfl; go_simp; clear hS c0 f0 c1 f1
          have H := S.hset 5 0 (.bool (negB Y)) rfl rfl (by intro q n e; cases e)
          replace S := S.set 5 0 (.bool (negB Y)) rfl
          refine iv8 H n1 d1 n2 d2 nx nn ny HH ?_; clear n1 d1 n2 d2 nx nn ny HH H; intro n1 d1 n2 d2 nx nn ny HH
          have H := S.hset 5 1 (.slice pb lb Kb) rfl rfl (by intro q n e; cases e)
          replace S := S.set 5 1 (.slice pb lb Kb) rfl
          refine iv8 H n1 d1 n2 d2 nx nn ny HH ?_; clear n1 d1 n2 d2 nx nn ny HH H; intro n1 d1 n2 d2 nx nn ny HH
          refine ho hKK ⟨(S.c 1 0 rfl rfl), ⟨(S.c 1 1 rfl rfl), (S.c 0 2 rfl rfl)⟩⟩ fun hS => ?_
          generalize ((w18.setCell ⟨w17.heap.size, 0, none⟩ (.bool (negB Y))).setCell ⟨w17.heap.size, 1, none⟩ (.slice pb lb Kb)) = w19 at S n1 d1 n2 d2 nx nn ny HH hS ⊢
          clear hKK KK
          refine rd 11 fun KK hKK => ?_
          go_simp
          refine ho hKK hS fun hS => ?_
          clear hKK KK
          refine wpAnyH_done (by kernel_rfl) ?_ _
          go_wp2_with fail
          go_meet
          case rel => exact ⟨w17.heap.size, pb, lb, Kb, rfl, rfl, S, ny, HH⟩
        ·
          go_simp; clear hS
          have H := S.hnew 25 [.bool false, .slice none 0 0]
          replace S := S.al 25 [.bool false, .slice none 0 0] (w16.heap.size)
          refine iv7 H n1 d1 n2 d2 nx nn HH ?_; clear n1 d1 n2 d2 nx nn HH H; intro n1 d1 n2 d2 nx nn HH
          refine ho hKK ⟨(S.c 1 0 rfl rfl), ⟨(S.c 1 1 rfl rfl), (S.c 0 2 rfl rfl)⟩⟩ fun hS => ?_
          generalize (w16.alloc (.cells #[.bool false, .slice none 0 0] 25)) = w20 at S n1 d1 n2 d2 nx nn HH hS ⊢
          clear hKK KK
          refine rd 5 fun KK hKK => ?_
          go_simp; clear hS
          refine S.cl (wmul_to ⟨_, _, _, by rw [hb2.out], n2⟩ ⟨_, _, _, rfl, nn⟩ HD.out.2.2.1 HD.out.2.1 Y HD.out.2.2.2.2.2.1 HD.out.2.2.2.2.2.2.2) ?_; clear S; rintro e w21 ⟨_, rfl, pb, lb, Kb, rfl, ny⟩ S H
          refine iv7 H n1 d1 n2 d2 nx nn HH ?_; clear n1 d1 n2 d2 nx nn HH H; intro n1 d1 n2 d2 nx nn HH
          go_wp2_with fail
          refine ho hKK ⟨(S.c 1 0 rfl rfl), ⟨(S.c 1 1 rfl rfl), (S.c 0 2 rfl rfl)⟩⟩ fun hS => ?_
          clear hKK KK
          refine tk 6 hS ?_
          refine tk 7 hS ?_
          refine tk 8 hS ?_
          refine rd 10 fun KK hKK => ?_
          have c0 := S.c 5 0 rfl rfl; have f0 := S.f 5 0 rfl; have c1 := S.c 5 1 rfl rfl; have f1 := S.f 5 1 rfl; go_simp; clear hS c0 f0 c1 f1
          have H := S.hset 5 0 (.bool (negB Y)) rfl rfl (by intro q n e; cases e)
          replace S := S.set 5 0 (.bool (negB Y)) rfl
          refine iv8 H n1 d1 n2 d2 nx nn ny HH ?_; clear n1 d1 n2 d2 nx nn ny HH H; intro n1 d1 n2 d2 nx nn ny HH
          have H := S.hset 5 1 (.slice pb lb Kb) rfl rfl (by intro q n e; cases e)
          replace S := S.set 5 1 (.slice pb lb Kb) rfl
          refine iv8 H n1 d1 n2 d2 nx nn ny HH ?_; clear n1 d1 n2 d2 nx nn ny HH H; intro n1 d1 n2 d2 nx nn ny HH
          refine ho hKK ⟨(S.c 1 0 rfl rfl), ⟨(S.c 1 1 rfl rfl), (S.c 0 2 rfl rfl)⟩⟩ fun hS => ?_
          generalize ((w21.setCell ⟨w16.heap.size, 0, none⟩ (.bool (negB Y))).setCell ⟨w16.heap.size, 1, none⟩ (.slice pb lb Kb)) = w22 at S n1 d1 n2 d2 nx nn ny HH hS ⊢
          clear hKK KK
          refine rd 11 fun KK hKK => ?_
          go_simp
          refine ho hKK hS fun hS => ?_
          clear hKK KK
          refine wpAnyH_done (by kernel_rfl) ?_ _
          go_wp2_with fail
          go_meet
          case rel => exact ⟨w16.heap.size, pb, lb, Kb, rfl, rfl, S, ny, HH⟩
      ·
        go_simp; clear hS
        have H := S.hnew 25 [.bool false, .slice none 0 0]
        replace S := S.al 25 [.bool false, .slice none 0 0] (w15.heap.size)
        refine iv6 H n1 d1 n2 d2 nx HH ?_; clear n1 d1 n2 d2 nx HH H; intro n1 d1 n2 d2 nx HH
        refine ho hKK ⟨(S.c 1 0 rfl rfl), ⟨(S.c 1 1 rfl rfl), (S.c 0 2 rfl rfl)⟩⟩ fun hS => ?_
        generalize (w15.alloc (.cells #[.bool false, .slice none 0 0] 25)) = w23 at S n1 d1 n2 d2 nx HH hS ⊢
        clear hKK KK
        refine rd 4 fun KK hKK => ?_
        go_simp; clear hS
        refine S.cl (wnat_any d1 HD.out.2.1 (x.den : Int) rfl) ?_; clear S; rintro e w24 ⟨_, rfl, pn, ln, Kn, rfl, nn⟩ S H
        refine iv6 H n1 d1 n2 d2 nx HH ?_; clear n1 d1 n2 d2 nx HH H; intro n1 d1 n2 d2 nx HH
        go_wp2_with fail
        refine ho hKK ⟨(S.c 1 0 rfl rfl), ⟨(S.c 1 1 rfl rfl), (S.c 0 2 rfl rfl)⟩⟩ fun hS => ?_
        clear hKK KK
        refine rd 5 fun KK hKK => ?_
        go_simp; clear hS
        refine S.cl (wmul_to ⟨_, _, _, by rw [hb2.out], n2⟩ ⟨_, _, _, rfl, nn⟩ HD.out.2.2.1 HD.out.2.1 Y HD.out.2.2.2.2.2.1 HD.out.2.2.2.2.2.2.2) ?_; clear S; rintro e w25 ⟨_, rfl, pb, lb, Kb, rfl, ny⟩ S H
        refine iv7 H n1 d1 n2 d2 nx nn HH ?_; clear n1 d1 n2 d2 nx nn HH H; intro n1 d1 n2 d2 nx nn HH
        go_wp2_with fail
        refine ho hKK ⟨(S.c 1 0 rfl rfl), ⟨(S.c 1 1 rfl rfl), (S.c 0 2 rfl rfl)⟩⟩ fun hS => ?_
        clear hKK KK
        refine tk 6 hS ?_
        refine tk 7 hS ?_
        refine tk 8 hS ?_
        refine rd 10 fun KK hKK => ?_
        have c0 := S.c 5 0 rfl rfl; have f0 := S.f 5 0 rfl; have c1 := S.c 5 1 rfl rfl; have f1 := S.f 5 1 rfl; go_simp; clear hS c0 f0 c1 f1
        have H := S.hset 5 0 (.bool (negB Y)) rfl rfl (by intro q n e; cases e)
        replace S := S.set 5 0 (.bool (negB Y)) rfl
        refine iv8 H n1 d1 n2 d2 nx nn ny HH ?_; clear n1 d1 n2 d2 nx nn ny HH H; intro n1 d1 n2 d2 nx nn ny HH
        have H := S.hset 5 1 (.slice pb lb Kb) rfl rfl (by intro q n e; cases e)
        replace S := S.set 5 1 (.slice pb lb Kb) rfl
        refine iv8 H n1 d1 n2 d2 nx nn ny HH ?_; clear n1 d1 n2 d2 nx nn ny HH H; intro n1 d1 n2 d2 nx nn ny HH
        refine ho hKK ⟨(S.c 1 0 rfl rfl), ⟨(S.c 1 1 rfl rfl), (S.c 0 2 rfl rfl)⟩⟩ fun hS => ?_
        generalize ((w25.setCell ⟨w15.heap.size, 0, none⟩ (.bool (negB Y))).setCell ⟨w15.heap.size, 1, none⟩ (.slice pb lb Kb)) = w26 at S n1 d1 n2 d2 nx nn ny HH hS ⊢
        clear hKK KK
        refine rd 11 fun KK hKK => ?_
        go_simp
        refine ho hKK hS fun hS => ?_
        clear hKK KK
        refine wpAnyH_done (by kernel_rfl) ?_ _
        go_wp2_with fail
        go_meet
        case rel => exact ⟨w15.heap.size, pb, lb, Kb, rfl, rfl, S, ny, HH⟩
    case rest =>
      obtain ⟨g9, pb, lb, Kb, rfl, rfl, S, ny, HH⟩ := hcut
      obtain ⟨w27, rfl⟩ : ∃ W : World, W = wc := ⟨_, rfl⟩
      refine iv5 HH n1 d1 n2 d2 nx ?_; clear n1 d1 n2 d2 nx HH; intro n1 d1 n2 d2 nx; have c0_ := S.c3 0 rfl; have c1_ := S.c3 1 rfl; have c2_ := S.c2 2 rfl; have c3_ := S.c2 3 rfl; have c4_ := S.c2 4 rfl; have c5_ := S.c2 5 rfl
      go_upto_region 3 with fail
      clear c0_ c1_ c2_ c3_ c4_ c5_
      have HH := Hold.drew w27
      refine iv6 HH n1 d1 n2 d2 nx ny ?_; clear n1 d1 n2 d2 nx ny; intro n1 d1 n2 d2 nx ny
      replace S := S.drew
      refine wp_region_held_drew (S := fun W => W.cell? ⟨g7, 0, none⟩ = some (.bool (negB X)) ∧ W.cell? ⟨g7, 1, none⟩ = some (.slice p l K) ∧ W.cell? ⟨g9, 0, none⟩ = some (.bool (negB Y)) ∧ W.cell? ⟨g9, 1, none⟩ = some (.slice pb lb Kb)) (by kernel_rfl) ⟨(S.c 4 0 rfl rfl), ⟨(S.c 4 1 rfl rfl), ⟨(S.c 5 0 rfl rfl), (S.c 5 1 rfl rfl)⟩⟩⟩ (fun hS => ?_)
      generalize w27.drew = w28 at S n1 d1 n2 d2 nx ny HH hS ⊢
      refine tk 0 hS ?_
      refine tk 1 hS ?_
      refine tk 2 hS ?_
      refine tk 3 hS ?_
      refine rd 4 fun KK hKK => ?_
      go_simp; clear hS
      have H := S.hnew 36 [.int .i64 0, .int .i64 0]
      replace S := S.al 36 [.int .i64 0, .int .i64 0] (w28.heap.size)
      refine iv7 H n1 d1 n2 d2 nx ny HH ?_; clear n1 d1 n2 d2 nx ny HH H; intro n1 d1 n2 d2 nx ny HH
      refine ho hKK ⟨(S.c 4 0 rfl rfl), ⟨(S.c 4 1 rfl rfl), ⟨(S.c 5 0 rfl rfl), (S.c 5 1 rfl rfl)⟩⟩⟩ fun hS => ?_
      generalize (w28.alloc (.cells #[.int .i64 0, .int .i64 0] 36)) = w29 at S n1 d1 n2 d2 nx ny HH hS ⊢
      clear hKK KK
      refine rd 5 fun KK hKK => ?_
      go_simp; clear hS
      refine S.cl (or_two S 6 rfl) ?_; clear S; rintro e w30 rfl S H
      refine iv7 H n1 d1 n2 d2 nx ny HH ?_; clear n1 d1 n2 d2 nx ny HH H; intro n1 d1 n2 d2 nx ny HH
      go_wp2_with fail
      refine ho hKK ⟨(S.c 4 0 rfl rfl), ⟨(S.c 4 1 rfl rfl), ⟨(S.c 5 0 rfl rfl), (S.c 5 1 rfl rfl)⟩⟩⟩ fun hS => ?_
      clear hKK KK
      refine rd 6 fun KK hKK => ?_
      have c0 := S.c 2 0 rfl rfl; have f0 := S.f 2 0 rfl; have c1 := S.c 2 1 rfl rfl; have f1 := S.f 2 1 rfl; go_simp; clear hS c0 f0 c1 f1
      have H := S.hset 2 0 (.bool (negB X)) rfl rfl (by intro q n e; cases e)
      replace S := S.set 2 0 (.bool (negB X)) rfl
      refine iv7 H n1 d1 n2 d2 nx ny HH ?_; clear n1 d1 n2 d2 nx ny HH H; intro n1 d1 n2 d2 nx ny HH
      have H := S.hset 2 1 (.slice p l K) rfl rfl (by intro q n e; cases e)
      replace S := S.set 2 1 (.slice p l K) rfl
      refine iv7 H n1 d1 n2 d2 nx ny HH ?_; clear n1 d1 n2 d2 nx ny HH H; intro n1 d1 n2 d2 nx ny HH
      refine ho hKK ⟨(S.c 4 0 rfl rfl), ⟨(S.c 4 1 rfl rfl), ⟨(S.c 5 0 rfl rfl), (S.c 5 1 rfl rfl)⟩⟩⟩ fun hS => ?_
      generalize ((w30.setCell ⟨w.heap.size + 1 + 1, 0, none⟩ (.bool (negB X))).setCell ⟨w.heap.size + 1 + 1, 1, none⟩ (.slice p l K)) = w31 at S n1 d1 n2 d2 nx ny HH hS ⊢
      clear hKK KK
      refine rd 7 fun KK hKK => ?_
      have c0 := S.c 3 0 rfl rfl; have f0 := S.f 3 0 rfl; have c1 := S.c 3 1 rfl rfl; have f1 := S.f 3 1 rfl; go_simp; clear hS c0 f0 c1 f1
      have H := S.hset 3 0 (.bool (negB Y)) rfl rfl (by intro q n e; cases e)
      replace S := S.set 3 0 (.bool (negB Y)) rfl
      refine iv7 H n1 d1 n2 d2 nx ny HH ?_; clear n1 d1 n2 d2 nx ny HH H; intro n1 d1 n2 d2 nx ny HH
      have H := S.hset 3 1 (.slice pb lb Kb) rfl rfl (by intro q n e; cases e)
      replace S := S.set 3 1 (.slice pb lb Kb) rfl
      refine iv7 H n1 d1 n2 d2 nx ny HH ?_; clear n1 d1 n2 d2 nx ny HH H; intro n1 d1 n2 d2 nx ny HH
      refine ho hKK ⟨(S.c 4 0 rfl rfl), ⟨(S.c 4 1 rfl rfl), ⟨(S.c 5 0 rfl rfl), (S.c 5 1 rfl rfl)⟩⟩⟩ fun hS => ?_
      generalize ((w31.setCell ⟨w.heap.size + 1 + 1 + 1, 0, none⟩ (.bool (negB Y))).setCell ⟨w.heap.size + 1 + 1 + 1, 1, none⟩ (.slice pb lb Kb)) = w32 at S n1 d1 n2 d2 nx ny HH hS ⊢
      clear hKK KK
      refine rd 8 fun KK hKK => ?_
      go_simp
      refine ho hKK hS fun hS => ?_
      clear hKK KK
      refine wpAnyH_done (by kernel_rfl) ?_ _
      clear hS HH; have c0_ := S.c3 0 rfl; have c1_ := S.c3 1 rfl; have c2_ := S.c2 2 rfl; have c3_ := S.c2 3 rfl; have c4_ := S.c2 4 rfl; have c5_ := S.c2 5 rfl; go_wp2_with fail; have d2_0 := S.c 2 0 rfl rfl; have d2_1 := S.c 2 1 rfl rfl; have d3_0 := S.c 3 0 rfl rfl; have d3_1 := S.c 3 1 rfl rfl
      exact bodyPost_ret (v := .tuple #[.agg #[.bool (negB X), .slice p l K], .agg #[.bool (negB Y), .slice pb lb Kb], .int .i64 0]) (by simp [results, Tryz.f72, go_sem, d2_0, d2_1, d3_0, d3_1]) rfl (⟨⟨_, _, rfl, ⟨p, l, K, rfl, nx⟩, ⟨pb, lb, Kb, rfl, ny⟩⟩, S.below⟩)
theorem make_parts (n d : Int) (h0 : d ≠ 0) : 0 < Nat.gcd n.natAbs d.natAbs ∧ (Rat.divInt n d).den = d.natAbs / Nat.gcd n.natAbs d.natAbs ∧ (0 < d → (Rat.divInt n d).num = n / ((Nat.gcd n.natAbs d.natAbs : Nat) : Int)) ∧ (d < 0 → (Rat.divInt n d).num = -(n / ((Nat.gcd n.natAbs d.natAbs : Nat) : Int))) := by
  have hg : Int.gcd d n = Nat.gcd n.natAbs d.natAbs := by rw [Int.gcd_eq_natAbs_gcd_natAbs, Nat.gcd_comm]
  have hdvd : ((Nat.gcd n.natAbs d.natAbs : Nat) : Int) ∣ n := Int.ofNat_dvd_left.2 (Nat.gcd_dvd_left _ _)
  refine ⟨Nat.gcd_pos_of_pos_right _ (by omega), ?_, fun h => ?_, fun h => ?_⟩
  · rw [Rat.den_divInt, if_neg h0, hg]
  · rw [Rat.num_divInt, hg, Int.sign_eq_one_of_pos h, Int.one_mul]
  · rw [Rat.num_divInt, hg, Int.sign_eq_neg_one_of_neg h, Int.neg_one_mul, Int.neg_ediv_of_dvd hdvd]
set_option maxRecDepth 100000 in
set_option maxHeartbeats 8000000 in
theorem rmake_any {va vb : Value} {n d : Int} {w : World} (ha : IsInt w va n) (hb : IsInt w vb d) (hn : n.natAbs < maxN) (hd : d.natAbs < maxN) (h0 : d ≠ 0) (q : Rat) (hq : q = Rat.divInt n d) :
    Calls Tryz.prog 128 #[va, vb] w fun e w' => (∃ u, e = .returned (.tuple #[u, .int .i64 0]) ∧ IsRat w' u q) ∧ Below w.heap.size w w' := by
  obtain ⟨p1, l1, K1, rfl, n1⟩ := ha
  obtain ⟨p2, l2, K2, rfl, n2⟩ := hb
  obtain ⟨b1, hb1⟩ : ∃ b1, negB n = b1 := ⟨_, rfl⟩
  obtain ⟨b2, hb2⟩ : ∃ b2, negB d = b2 := ⟨_, rfl⟩
  rw [hb1, hb2]
  obtain ⟨g, hg⟩ : ∃ g, Nat.gcd n.natAbs d.natAbs = g := ⟨_, rfl⟩
  have mp := make_parts n d h0
  rw [hg, ← hq] at mp
  obtain ⟨z, hz⟩ : ∃ z, n / (g : Int) = z := ⟨_, rfl⟩
  obtain ⟨zr, hzr⟩ : ∃ z, n % (g : Int) = z := ⟨_, rfl⟩
  obtain ⟨y, hy⟩ : ∃ z, ((d.natAbs : Nat) : Int) / (g : Int) = z := ⟨_, rfl⟩
  obtain ⟨yr, hyr⟩ : ∃ z, ((d.natAbs : Nat) : Int) % (g : Int) = z := ⟨_, rfl⟩
  rw [hz] at mp
  have hgm : g < maxN := by
    have : g ≤ d.natAbs := hg ▸ Nat.gcd_le_right _ (by omega)
    omega
  have hyd : y.natAbs = q.den := by
    rw [← hy, mp.2.1, ← Int.natCast_ediv, Int.natAbs_natCast]
  have hzm : z.natAbs < maxN := hz ▸ Nat.lt_of_le_of_lt (Int.natAbs_ediv_le_natAbs _ _) hn
  have hg0 : ((g : Nat) : Int) ≠ 0 := by have := mp.1; omega
  have hq1 : b2 = false → q.num = z := fun e => mp.2.2.1 (by
    by_cases h : d < 0
    · rw [negB_pos h, e] at hb2; cases hb2
    · omega)
  have hq2 : b2 = true → q.num = -z := fun e => mp.2.2.2 (by
    by_cases h : d < 0
    · exact h
    · rw [negB_neg h, e] at hb2; cases hb2)
  obtain ⟨s, hs⟩ : ∃ s, d.sign = s := ⟨_, rfl⟩
  have hs0 : ¬ s = 0 := by rw [← hs]; exact fun h => h0 (Int.sign_eq_zero_iff_zero.1 h)
  have hs1 : (s == 0) = false := by simpa using hs0
  have HD := Lib.hid (And.intro hb1 (And.intro hb2 (And.intro hn (And.intro hd hs))))
  have HG := Lib.hid (And.intro hg (And.intro hgm hg0))
  have HZ := Lib.hid (And.intro hz (And.intro hzr (And.intro hy hyr)))
  have HQ := Lib.hid (And.intro hyd (And.intro hzm (And.intro hq1 hq2)))
  clear hb1 hb2 hn hd hs hg hgm hg0 hz hzr hy hyr hyd hzm hq1 hq2 mp hq h0
  have S := (((St.start w).alloc 25 [.bool b1, .slice p1 l1 K1] (w.heap.size)).alloc 25 [.bool b2, .slice p2 l2 K2] (w.heap.size + 1)).alloc 34 [.bool false, .slice none 0 0, .slice none 0 0] (w.heap.size + 1 + 1)
  try simp only [List.cons_append, List.nil_append] at S
  replace n1 := n1.hold S.hold; replace n2 := n2.hold S.hold
  have c0_ := S.c2 0 rfl; have c1_ := S.c2 1 rfl; have c2_ := S.c3 2 rfl
  go_enter Tryz.func128, Tryz.ntmps128
  go_wp2_with fail; clear c0_ c1_ c2_
  refine S.cl (wsign_any ⟨_, _, _, by rw [HD.out.2.1], n2⟩ HD.out.2.2.2.1 HD.out.2.2.2.2) ?_; clear S; rintro e w1 rfl S H
  replace n1 := n1.hold H; replace n2 := n2.hold H
  clear H; have c0_ := S.c2 0 rfl; have c1_ := S.c2 1 rfl; have c2_ := S.c3 2 rfl
  go_upto_region 3 with fail
  clear c0_ c1_ c2_
  have HH := Hold.drew w1
  replace n1 := n1.hold HH; replace n2 := n2.hold HH
  replace S := S.drew
  refine wp_region_held_drew (S := fun W => W.cell? ⟨w.heap.size, 0, none⟩ = some (.bool b1) ∧ W.cell? ⟨w.heap.size, 1, none⟩ = some (.slice p1 l1 K1) ∧ W.cell? ⟨w.heap.size + 1, 0, none⟩ = some (.bool b2) ∧ W.cell? ⟨w.heap.size + 1, 1, none⟩ = some (.slice p2 l2 K2)) (by kernel_rfl) ⟨(S.c 0 0 rfl rfl), ⟨(S.c 0 1 rfl rfl), ⟨(S.c 1 0 rfl rfl), (S.c 1 1 rfl rfl)⟩⟩⟩ (fun hS => ?_)
  generalize w1.drew = w2 at S n1 n2 HH hS ⊢
  refine tk 0 hS ?_
  refine tk 2 hS ?_
  refine rd 1 fun KK hKK => ?_
  go_simp; clear hS
  refine S.cl (wcheck_any ⟨_, _, _, by rw [HD.out.1], n1⟩ HD.out.2.2.1) ?_; clear S; rintro e w3 rfl S H
  refine iv3 H n1 n2 HH ?_; clear n1 n2 HH H; intro n1 n2 HH
  go_wp2_with fail
  refine ho hKK ⟨(S.c 0 0 rfl rfl), ⟨(S.c 0 1 rfl rfl), ⟨(S.c 1 0 rfl rfl), (S.c 1 1 rfl rfl)⟩⟩⟩ fun hS => ?_
  clear hKK KK
  refine rd 3 fun KK hKK => ?_
  go_simp; clear hS
  refine S.cl (wcheck_any ⟨_, _, _, by rw [HD.out.2.1], n2⟩ HD.out.2.2.2.1) ?_; clear S; rintro e w4 rfl S H
  refine iv3 H n1 n2 HH ?_; clear n1 n2 HH H; intro n1 n2 HH
  go_wp2_with fail
  refine ho hKK ⟨(S.c 0 0 rfl rfl), ⟨(S.c 0 1 rfl rfl), ⟨(S.c 1 0 rfl rfl), (S.c 1 1 rfl rfl)⟩⟩⟩ fun hS => ?_
  clear hKK KK
  refine rd 4 fun KK hKK => ?_
  go_simp; clear hS
  have H := S.hnew 36 [.int .i64 0, .int .i64 0]
  replace S := S.al 36 [.int .i64 0, .int .i64 0] (w4.heap.size)
  refine iv3 H n1 n2 HH ?_; clear n1 n2 HH H; intro n1 n2 HH
  refine ho hKK ⟨(S.c 0 0 rfl rfl), ⟨(S.c 0 1 rfl rfl), ⟨(S.c 1 0 rfl rfl), (S.c 1 1 rfl rfl)⟩⟩⟩ fun hS => ?_
  generalize (w4.alloc (.cells #[.int .i64 0, .int .i64 0] 36)) = w5 at S n1 n2 HH hS ⊢
  clear hKK KK
  refine rd 5 fun KK hKK => ?_
  go_simp; clear hS
  refine S.cl (or_two S 3 rfl) ?_; clear S; rintro e w6 rfl S H
  refine iv3 H n1 n2 HH ?_; clear n1 n2 HH H; intro n1 n2 HH
  go_wp2_with fail
  refine ho hKK ⟨(S.c 0 0 rfl rfl), ⟨(S.c 0 1 rfl rfl), ⟨(S.c 1 0 rfl rfl), (S.c 1 1 rfl rfl)⟩⟩⟩ fun hS => ?_
  clear hKK KK
  refine rd 6 fun KK hKK => ?_
  go_simp
  refine ho hKK hS fun hS => ?_
  clear hKK KK
  refine wpAnyH_done (by kernel_rfl) ?_ _
  clear hS HH; have c0_ := S.c2 0 rfl; have c1_ := S.c2 1 rfl; have c2_ := S.c3 2 rfl; go_wp2_with fail; clear c0_ c1_ c2_
  refine S.cl (gcd_any n1 n2 HD.out.2.2.1 HD.out.2.2.2.1) ?_; clear S; rintro e w7 ⟨vg, rfl, ng⟩ S H
  replace n1 := n1.hold H; replace n2 := n2.hold H
  clear H; have c0_ := S.c2 0 rfl; have c1_ := S.c2 1 rfl; have c2_ := S.c3 2 rfl
  rw [HG.out.1] at ng
  go_wp2_with fail; clear c0_ c1_ c2_
  refine S.cl (wnat_any ng HG.out.2.1 (g : Int) rfl) ?_; clear S; rintro e w8 ⟨_, rfl, pc, lc, Kc, rfl, nc⟩ S H
  refine iv3 H n1 n2 ng ?_; clear n1 n2 ng; intro n1 n2 ng
  clear H; have c0_ := S.c2 0 rfl; have c1_ := S.c2 1 rfl; have c2_ := S.c3 2 rfl
  have H := S.hnew 25 [.bool (negB (g : Int)), .slice pc lc Kc]
  replace S := S.al 25 [.bool (negB (g : Int)), .slice pc lc Kc] (w8.heap.size)
  refine iv4 H n1 n2 ng nc ?_; clear n1 n2 ng nc; intro n1 n2 ng nc
  clear H; clear c0_ c1_ c2_; have c0_ := S.c2 0 rfl; have c1_ := S.c2 1 rfl; have c2_ := S.c3 2 rfl; have c4_ := S.c2 4 rfl; go_wp2_with fail; clear c0_ c1_ c2_ c4_
  refine S.cl (wdiv_to ⟨_, _, _, by rw [HD.out.1], n1⟩ ⟨_, _, _, rfl, nc⟩ HD.out.2.2.1 HG.out.2.1 z zr HG.out.2.2 HZ.out.1 HZ.out.2.1) ?_; clear S; rintro e w9 ⟨_, _, rfl, ⟨pz, lz, Kz, rfl, nz⟩, ⟨pr, lr, Kr, rfl, nr⟩⟩ S H
  refine iv4 H n1 n2 ng nc ?_; clear n1 n2 ng nc; intro n1 n2 ng nc
  clear H; have c0_ := S.c2 0 rfl; have c1_ := S.c2 1 rfl; have c2_ := S.c3 2 rfl; have c4_ := S.c2 4 rfl
  have H := S.hnew 25 [.bool (negB z), .slice pz lz Kz]
  replace S := S.al 25 [.bool (negB z), .slice pz lz Kz] (w9.heap.size)
  refine iv5 H n1 n2 ng nc nz ?_; clear n1 n2 ng nc nz; intro n1 n2 ng nc nz
  clear H
  have H := S.hnew 25 [.bool (negB zr), .slice pr lr Kr]
  replace S := S.al 25 [.bool (negB zr), .slice pr lr Kr] (w9.heap.size + 1)
  refine iv5 H n1 n2 ng nc nz ?_; clear n1 n2 ng nc nz; intro n1 n2 ng nc nz
  clear H; clear c0_ c1_ c2_ c4_; have c0_ := S.c2 0 rfl; have c1_ := S.c2 1 rfl; have c2_ := S.c3 2 rfl; have c4_ := S.c2 4 rfl; have c5_ := S.c2 5 rfl
  go_upto_region 8 with fail
  clear c0_ c1_ c2_ c4_ c5_
  generalize (.tuple #[.agg #[.bool (negB z), .slice pz lz Kz], .agg #[.bool (negB zr), .slice pr lr Kr], .int .i64 0] : Value) = x1
  generalize (.agg #[.bool (negB z), .slice pz lz Kz] : Value) = x2
  generalize (.agg #[.bool (negB zr), .slice pr lr Kr] : Value) = x3
  generalize (.agg #[.bool b1, .slice p1 l1 K1] : Value) = x4
  generalize ((w9.alloc (.cells #[.bool (negB z), .slice pz lz Kz] 25)).alloc (.cells #[.bool (negB zr), .slice pr lr Kr] 25)) = w10 at S n1 n2 ng nc nz ⊢
  go_cut [11] (fun s11 wx => ∃ g11 py ly Ky, s11 = .pointer (some ⟨g11, 0, none⟩) ∧ St w wx [(w.heap.size, 25, [.bool b1, .slice p1 l1 K1]), (w.heap.size + 1, 25, [.bool b2, .slice p2 l2 K2]), (w.heap.size + 1 + 1, 34, [.bool false, .slice none 0 0, .slice none 0 0]), (w4.heap.size, 36, [.int .i64 0, .int .i64 0]), (w8.heap.size, 25, [.bool (negB (g : Int)), .slice pc lc Kc]), (w9.heap.size, 25, [.bool (negB z), .slice pz lz Kz]), (w9.heap.size + 1, 25, [.bool (negB zr), .slice pr lr Kr]), (g11, 25, [.bool (negB y), .slice py ly Ky])] ∧ IsNat wx (.slice py ly Ky) y.natAbs ∧ Hold w10 wx)
  case first =>
    have HH := Hold.drew w10
    refine iv5 HH n1 n2 ng nc nz ?_; clear n1 n2 ng nc nz; intro n1 n2 ng nc nz
    replace S := S.drew
    refine wp_region_held_drew (S := fun W => W.cell? ⟨w.heap.size + 1, 0, none⟩ = some (.bool b2) ∧ W.cell? ⟨w.heap.size + 1, 1, none⟩ = some (.slice p2 l2 K2) ∧ W.cell? ⟨w8.heap.size, 0, none⟩ = some (.bool (negB (g : Int))) ∧ W.cell? ⟨w8.heap.size, 1, none⟩ = some (.slice pc lc Kc)) (by kernel_rfl) ⟨(S.c 1 0 rfl rfl), ⟨(S.c 1 1 rfl rfl), ⟨(S.c 4 0 rfl rfl), (S.c 4 1 rfl rfl)⟩⟩⟩ (fun hS => ?_)
    generalize w10.drew = w11 at S n1 n2 ng nc nz HH hS ⊢
    refine tk 0 hS ?_
    refine tk 2 hS ?_
    refine wpAnyH_ready (rs := [1, 8, 9]) (by kernel_rfl) (by simp) (AllReadyH.cons (opOf rfl) (fun KK hKK => ?_) (AllReadyH.cons (opOf rfl) (fun KK hKK => ?_) (AllReadyH.cons (opOf rfl) (fun KK hKK => ?_) AllReadyH.nil)))
    ·
      go_simp; clear hS
      refine S.cl (wabs_any ⟨_, _, _, by rw [HD.out.2.1], n2⟩ HD.out.2.2.2.1 ((d.natAbs : Nat) : Int) rfl) ?_; clear S; rintro e w12 ⟨_, rfl, pa, la, Ka, rfl, na⟩ S H
      refine iv6 H n1 n2 ng nc nz HH ?_; clear n1 n2 ng nc nz HH H; intro n1 n2 ng nc nz HH
      go_wp2_with fail
      refine ho hKK ⟨(S.c 1 0 rfl rfl), ⟨(S.c 1 1 rfl rfl), ⟨(S.c 4 0 rfl rfl), (S.c 4 1 rfl rfl)⟩⟩⟩ fun hS => ?_
      clear hKK KK
      refine wpAnyH_ready (rs := [3, 8, 9]) (by kernel_rfl) (by simp) (AllReadyH.cons (opOf rfl) (fun KK hKK => ?_) (AllReadyH.cons (opOf rfl) (fun KK hKK => ?_) (AllReadyH.cons (opOf rfl) (fun KK hKK => ?_) AllReadyH.nil)))
      ·
        go_simp; clear hS
        refine S.cl (wdiv_to ⟨_, _, _, rfl, na⟩ ⟨_, _, _, rfl, nc⟩ HD.out.2.2.2.1 HG.out.2.1 y yr HG.out.2.2 HZ.out.2.2.1 HZ.out.2.2.2) ?_; clear S; rintro e w13 ⟨_, _, rfl, ⟨py, ly, Ky, rfl, ny⟩, ⟨pv, lv, Kv, rfl, nv⟩⟩ S H
        refine iv7 H n1 n2 ng nc nz na HH ?_; clear n1 n2 ng nc nz na HH H; intro n1 n2 ng nc nz na HH
        go_wp2_with fail
        refine ho hKK ⟨(S.c 1 0 rfl rfl), ⟨(S.c 1 1 rfl rfl), ⟨(S.c 4 0 rfl rfl), (S.c 4 1 rfl rfl)⟩⟩⟩ fun hS => ?_
        clear hKK KK
        refine tk 4 hS ?_
        refine tk 5 hS ?_
        refine tk 6 hS ?_
        refine tk 7 hS ?_
        refine wpAnyH_ready (rs := [8, 9]) (by kernel_rfl) (by simp) (AllReadyH.cons (opOf rfl) (fun KK hKK => ?_) (AllReadyH.cons (opOf rfl) (fun KK hKK => ?_) AllReadyH.nil))
        ·
          go_simp; clear hS
          have H := S.hnew 25 [.bool false, .slice none 0 0]
          replace S := S.al 25 [.bool false, .slice none 0 0] (w13.heap.size)
          refine iv8 H n1 n2 ng nc nz na ny HH ?_; clear n1 n2 ng nc nz na ny HH H; intro n1 n2 ng nc nz na ny HH
          refine ho hKK ⟨(S.c 1 0 rfl rfl), ⟨(S.c 1 1 rfl rfl), ⟨(S.c 4 0 rfl rfl), (S.c 4 1 rfl rfl)⟩⟩⟩ fun hS => ?_
          generalize (w13.alloc (.cells #[.bool false, .slice none 0 0] 25)) = w14 at S n1 n2 ng nc nz na ny HH hS ⊢
          clear hKK KK
          refine rd 9 fun KK hKK => ?_
          go_simp; clear hS
          have H := S.hnew 25 [.bool false, .slice none 0 0]
          replace S := S.al 25 [.bool false, .slice none 0 0] (w14.heap.size)
          refine iv8 H n1 n2 ng nc nz na ny HH ?_; clear n1 n2 ng nc nz na ny HH H; intro n1 n2 ng nc nz na ny HH
          refine ho hKK ⟨(S.c 1 0 rfl rfl), ⟨(S.c 1 1 rfl rfl), ⟨(S.c 4 0 rfl rfl), (S.c 4 1 rfl rfl)⟩⟩⟩ fun hS => ?_
          generalize (w14.alloc (.cells #[.bool false, .slice none 0 0] 25)) = w15 at S n1 n2 ng nc nz na ny HH hS ⊢
          clear hKK KK
          refine rd 10 fun KK hKK => ?_
          have c0 := S.c 7 0 rfl rfl; have f0 := S.f 7 0 rfl; have c1 := S.c 7 1 rfl rfl; have f1 := S.f 7 1 rfl; go_simp; clear hS c0 f0 c1 f1
          have H := S.hset 7 0 (.bool (negB y)) rfl rfl (by intro q n e; cases e)
          replace S := S.set 7 0 (.bool (negB y)) rfl
          refine iv8 H n1 n2 ng nc nz na ny HH ?_; clear n1 n2 ng nc nz na ny HH H; intro n1 n2 ng nc nz na ny HH
          have H := S.hset 7 1 (.slice py ly Ky) rfl rfl (by intro q n e; cases e)
          replace S := S.set 7 1 (.slice py ly Ky) rfl
          refine iv8 H n1 n2 ng nc nz na ny HH ?_; clear n1 n2 ng nc nz na ny HH H; intro n1 n2 ng nc nz na ny HH
          refine ho hKK ⟨(S.c 1 0 rfl rfl), ⟨(S.c 1 1 rfl rfl), ⟨(S.c 4 0 rfl rfl), (S.c 4 1 rfl rfl)⟩⟩⟩ fun hS => ?_
          generalize ((w15.setCell ⟨w13.heap.size, 0, none⟩ (.bool (negB y))).setCell ⟨w13.heap.size, 1, none⟩ (.slice py ly Ky)) = w16 at S n1 n2 ng nc nz na ny HH hS ⊢
          clear hKK KK
          refine rd 11 fun KK hKK => ?_
          have c0 := S.c 8 0 rfl rfl; have f0 := S.f 8 0 rfl; have c1 := S.c 8 1 rfl rfl; have f1 := S.f 8 1 rfl; go_simp; clear hS c0 f0 c1 f1
          have H := S.hset 8 0 (.bool (negB yr)) rfl rfl (by intro q n e; cases e)
          replace S := S.set 8 0 (.bool (negB yr)) rfl
          refine iv8 H n1 n2 ng nc nz na ny HH ?_; clear n1 n2 ng nc nz na ny HH H; intro n1 n2 ng nc nz na ny HH
          have H := S.hset 8 1 (.slice pv lv Kv) rfl rfl (by intro q n e; cases e)
          replace S := S.set 8 1 (.slice pv lv Kv) rfl
          refine iv8 H n1 n2 ng nc nz na ny HH ?_; clear n1 n2 ng nc nz na ny HH H; intro n1 n2 ng nc nz na ny HH
          refine ho hKK ⟨(S.c 1 0 rfl rfl), ⟨(S.c 1 1 rfl rfl), ⟨(S.c 4 0 rfl rfl), (S.c 4 1 rfl rfl)⟩⟩⟩ fun hS => ?_
          generalize ((w16.setCell ⟨w14.heap.size, 0, none⟩ (.bool (negB yr))).setCell ⟨w14.heap.size, 1, none⟩ (.slice pv lv Kv)) = w17 at S n1 n2 ng nc nz na ny HH hS ⊢
          clear hKK KK
          refine rd 12 fun KK hKK => ?_
          go_simp
          refine ho hKK hS fun hS => ?_
          clear hKK KK
          refine wpAnyH_done (by kernel_rfl) ?_ _
          go_wp2_with fail
          go_meet
          case rel => exact ⟨w13.heap.size, py, ly, Ky, rfl, S.sub (.cons_cons _ (.cons_cons _ (.cons_cons _ (.cons_cons _ (.cons_cons _ (.cons_cons _ (.cons_cons _ (.cons_cons _ (.cons _ (.slnil)))))))))), ny, HH⟩
        ·
          go_simp; clear hS
          have H := S.hnew 25 [.bool false, .slice none 0 0]
          replace S := S.al 25 [.bool false, .slice none 0 0] (w13.heap.size)
          refine iv8 H n1 n2 ng nc nz na ny HH ?_; clear n1 n2 ng nc nz na ny HH H; intro n1 n2 ng nc nz na ny HH
          refine ho hKK ⟨(S.c 1 0 rfl rfl), ⟨(S.c 1 1 rfl rfl), ⟨(S.c 4 0 rfl rfl), (S.c 4 1 rfl rfl)⟩⟩⟩ fun hS => ?_
          generalize (w13.alloc (.cells #[.bool false, .slice none 0 0] 25)) = w18 at S n1 n2 ng nc nz na ny HH hS ⊢
          clear hKK KK
          refine rd 8 fun KK hKK => ?_
          go_simp; clear hS
          have H := S.hnew 25 [.bool false, .slice none 0 0]
          replace S := S.al 25 [.bool false, .slice none 0 0] (w18.heap.size)
          refine iv8 H n1 n2 ng nc nz na ny HH ?_; clear n1 n2 ng nc nz na ny HH H; intro n1 n2 ng nc nz na ny HH
          refine ho hKK ⟨(S.c 1 0 rfl rfl), ⟨(S.c 1 1 rfl rfl), ⟨(S.c 4 0 rfl rfl), (S.c 4 1 rfl rfl)⟩⟩⟩ fun hS => ?_
          generalize (w18.alloc (.cells #[.bool false, .slice none 0 0] 25)) = w19 at S n1 n2 ng nc nz na ny HH hS ⊢
          clear hKK KK
          refine rd 10 fun KK hKK => ?_
          have c0 := S.c 8 0 rfl rfl; have f0 := S.f 8 0 rfl; have c1 := S.c 8 1 rfl rfl; have f1 := S.f 8 1 rfl; go_simp; clear hS c0 f0 c1 f1
          have H := S.hset 8 0 (.bool (negB y)) rfl rfl (by intro q n e; cases e)
          replace S := S.set 8 0 (.bool (negB y)) rfl
          refine iv8 H n1 n2 ng nc nz na ny HH ?_; clear n1 n2 ng nc nz na ny HH H; intro n1 n2 ng nc nz na ny HH
          have H := S.hset 8 1 (.slice py ly Ky) rfl rfl (by intro q n e; cases e)
          replace S := S.set 8 1 (.slice py ly Ky) rfl
          refine iv8 H n1 n2 ng nc nz na ny HH ?_; clear n1 n2 ng nc nz na ny HH H; intro n1 n2 ng nc nz na ny HH
          refine ho hKK ⟨(S.c 1 0 rfl rfl), ⟨(S.c 1 1 rfl rfl), ⟨(S.c 4 0 rfl rfl), (S.c 4 1 rfl rfl)⟩⟩⟩ fun hS => ?_
          generalize ((w19.setCell ⟨w18.heap.size, 0, none⟩ (.bool (negB y))).setCell ⟨w18.heap.size, 1, none⟩ (.slice py ly Ky)) = w20 at S n1 n2 ng nc nz na ny HH hS ⊢
          clear hKK KK
          refine rd 11 fun KK hKK => ?_
          have c0 := S.c 7 0 rfl rfl; have f0 := S.f 7 0 rfl; have c1 := S.c 7 1 rfl rfl; have f1 := S.f 7 1 rfl; go_simp; clear hS c0 f0 c1 f1
          have H := S.hset 7 0 (.bool (negB yr)) rfl rfl (by intro q n e; cases e)
          replace S := S.set 7 0 (.bool (negB yr)) rfl
          refine iv8 H n1 n2 ng nc nz na ny HH ?_; clear n1 n2 ng nc nz na ny HH H; intro n1 n2 ng nc nz na ny HH
          have H := S.hset 7 1 (.slice pv lv Kv) rfl rfl (by intro q n e; cases e)
          replace S := S.set 7 1 (.slice pv lv Kv) rfl
          refine iv8 H n1 n2 ng nc nz na ny HH ?_; clear n1 n2 ng nc nz na ny HH H; intro n1 n2 ng nc nz na ny HH
          refine ho hKK ⟨(S.c 1 0 rfl rfl), ⟨(S.c 1 1 rfl rfl), ⟨(S.c 4 0 rfl rfl), (S.c 4 1 rfl rfl)⟩⟩⟩ fun hS => ?_
          generalize ((w20.setCell ⟨w13.heap.size, 0, none⟩ (.bool (negB yr))).setCell ⟨w13.heap.size, 1, none⟩ (.slice pv lv Kv)) = w21 at S n1 n2 ng nc nz na ny HH hS ⊢
          clear hKK KK
          refine rd 12 fun KK hKK => ?_
          go_simp
          refine ho hKK hS fun hS => ?_
          clear hKK KK
          refine wpAnyH_done (by kernel_rfl) ?_ _
          go_wp2_with fail
          go_meet
          case rel => exact ⟨w18.heap.size, py, ly, Ky, rfl, S.sub (.cons_cons _ (.cons_cons _ (.cons_cons _ (.cons_cons _ (.cons_cons _ (.cons_cons _ (.cons_cons _ (.cons _ (.cons_cons _ (.slnil)))))))))), ny, HH⟩
      ·
        go_simp; clear hS
        have H := S.hnew 25 [.bool false, .slice none 0 0]
        replace S := S.al 25 [.bool false, .slice none 0 0] (w12.heap.size)
        refine iv7 H n1 n2 ng nc nz na HH ?_; clear n1 n2 ng nc nz na HH H; intro n1 n2 ng nc nz na HH
        refine ho hKK ⟨(S.c 1 0 rfl rfl), ⟨(S.c 1 1 rfl rfl), ⟨(S.c 4 0 rfl rfl), (S.c 4 1 rfl rfl)⟩⟩⟩ fun hS => ?_
        generalize (w12.alloc (.cells #[.bool false, .slice none 0 0] 25)) = w22 at S n1 n2 ng nc nz na HH hS ⊢
        clear hKK KK
        refine wpAnyH_ready (rs := [3, 9]) (by kernel_rfl) (by simp) (AllReadyH.cons (opOf rfl) (fun KK hKK => ?_) (AllReadyH.cons (opOf rfl) (fun KK hKK => ?_) AllReadyH.nil))
        ·
          go_simp; clear hS
          refine S.cl (wdiv_to ⟨_, _, _, rfl, na⟩ ⟨_, _, _, rfl, nc⟩ HD.out.2.2.2.1 HG.out.2.1 y yr HG.out.2.2 HZ.out.2.2.1 HZ.out.2.2.2) ?_; clear S; rintro e w23 ⟨_, _, rfl, ⟨py, ly, Ky, rfl, ny⟩, ⟨pv, lv, Kv, rfl, nv⟩⟩ S H
          refine iv7 H n1 n2 ng nc nz na HH ?_; clear n1 n2 ng nc nz na HH H; intro n1 n2 ng nc nz na HH
          go_wp2_with fail
          refine ho hKK ⟨(S.c 1 0 rfl rfl), ⟨(S.c 1 1 rfl rfl), ⟨(S.c 4 0 rfl rfl), (S.c 4 1 rfl rfl)⟩⟩⟩ fun hS => ?_
          clear hKK KK
          refine tk 4 hS ?_
          refine tk 5 hS ?_
          refine tk 6 hS ?_
          refine tk 7 hS ?_
          refine rd 9 fun KK hKK => ?_
          go_simp; clear hS
          have H := S.hnew 25 [.bool false, .slice none 0 0]
          replace S := S.al 25 [.bool false, .slice none 0 0] (w23.heap.size)
          refine iv8 H n1 n2 ng nc nz na ny HH ?_; clear n1 n2 ng nc nz na ny HH H; intro n1 n2 ng nc nz na ny HH
          refine ho hKK ⟨(S.c 1 0 rfl rfl), ⟨(S.c 1 1 rfl rfl), ⟨(S.c 4 0 rfl rfl), (S.c 4 1 rfl rfl)⟩⟩⟩ fun hS => ?_
          generalize (w23.alloc (.cells #[.bool false, .slice none 0 0] 25)) = w24 at S n1 n2 ng nc nz na ny HH hS ⊢
          clear hKK KK
          refine rd 10 fun KK hKK => ?_
          have c0 := S.c 7 0 rfl rfl; have f0 := S.f 7 0 rfl; have c1 := S.c 7 1 rfl rfl; have f1 := S.f 7 1 rfl; go_simp; clear hS c0 f0 c1 f1
          have H := S.hset 7 0 (.bool (negB y)) rfl rfl (by intro q n e; cases e)
          replace S := S.set 7 0 (.bool (negB y)) rfl
          refine iv8 H n1 n2 ng nc nz na ny HH ?_; clear n1 n2 ng nc nz na ny HH H; intro n1 n2 ng nc nz na ny HH
          have H := S.hset 7 1 (.slice py ly Ky) rfl rfl (by intro q n e; cases e)
          replace S := S.set 7 1 (.slice py ly Ky) rfl
          refine iv8 H n1 n2 ng nc nz na ny HH ?_; clear n1 n2 ng nc nz na ny HH H; intro n1 n2 ng nc nz na ny HH
          refine ho hKK ⟨(S.c 1 0 rfl rfl), ⟨(S.c 1 1 rfl rfl), ⟨(S.c 4 0 rfl rfl), (S.c 4 1 rfl rfl)⟩⟩⟩ fun hS => ?_
          generalize ((w24.setCell ⟨w12.heap.size, 0, none⟩ (.bool (negB y))).setCell ⟨w12.heap.size, 1, none⟩ (.slice py ly Ky)) = w25 at S n1 n2 ng nc nz na ny HH hS ⊢
          clear hKK KK
          refine rd 11 fun KK hKK => ?_
          have c0 := S.c 8 0 rfl rfl; have f0 := S.f 8 0 rfl; have c1 := S.c 8 1 rfl rfl; have f1 := S.f 8 1 rfl; go_simp; clear hS c0 f0 c1 f1
          have H := S.hset 8 0 (.bool (negB yr)) rfl rfl (by intro q n e; cases e)
          replace S := S.set 8 0 (.bool (negB yr)) rfl
          refine iv8 H n1 n2 ng nc nz na ny HH ?_; clear n1 n2 ng nc nz na ny HH H; intro n1 n2 ng nc nz na ny HH
          have H := S.hset 8 1 (.slice pv lv Kv) rfl rfl (by intro q n e; cases e)
          replace S := S.set 8 1 (.slice pv lv Kv) rfl
          refine iv8 H n1 n2 ng nc nz na ny HH ?_; clear n1 n2 ng nc nz na ny HH H; intro n1 n2 ng nc nz na ny HH
          refine ho hKK ⟨(S.c 1 0 rfl rfl), ⟨(S.c 1 1 rfl rfl), ⟨(S.c 4 0 rfl rfl), (S.c 4 1 rfl rfl)⟩⟩⟩ fun hS => ?_
          generalize ((w25.setCell ⟨w23.heap.size, 0, none⟩ (.bool (negB yr))).setCell ⟨w23.heap.size, 1, none⟩ (.slice pv lv Kv)) = w26 at S n1 n2 ng nc nz na ny HH hS ⊢
          clear hKK KK
          refine rd 12 fun KK hKK => ?_
          go_simp
          refine ho hKK hS fun hS => ?_
          clear hKK KK
          refine wpAnyH_done (by kernel_rfl) ?_ _
          go_wp2_with fail
          go_meet
          case rel => exact ⟨w12.heap.size, py, ly, Ky, rfl, S.sub (.cons_cons _ (.cons_cons _ (.cons_cons _ (.cons_cons _ (.cons_cons _ (.cons_cons _ (.cons_cons _ (.cons_cons _ (.cons _ (.slnil)))))))))), ny, HH⟩
        ·
          go_simp; clear hS
          have H := S.hnew 25 [.bool false, .slice none 0 0]
          replace S := S.al 25 [.bool false, .slice none 0 0] (w22.heap.size)
          refine iv7 H n1 n2 ng nc nz na HH ?_; clear n1 n2 ng nc nz na HH H; intro n1 n2 ng nc nz na HH
          refine ho hKK ⟨(S.c 1 0 rfl rfl), ⟨(S.c 1 1 rfl rfl), ⟨(S.c 4 0 rfl rfl), (S.c 4 1 rfl rfl)⟩⟩⟩ fun hS => ?_
          generalize (w22.alloc (.cells #[.bool false, .slice none 0 0] 25)) = w27 at S n1 n2 ng nc nz na HH hS ⊢
          clear hKK KK
          refine rd 3 fun KK hKK => ?_
          go_simp; clear hS
          refine S.cl (wdiv_to ⟨_, _, _, rfl, na⟩ ⟨_, _, _, rfl, nc⟩ HD.out.2.2.2.1 HG.out.2.1 y yr HG.out.2.2 HZ.out.2.2.1 HZ.out.2.2.2) ?_; clear S; rintro e w28 ⟨_, _, rfl, ⟨py, ly, Ky, rfl, ny⟩, ⟨pv, lv, Kv, rfl, nv⟩⟩ S H
          refine iv7 H n1 n2 ng nc nz na HH ?_; clear n1 n2 ng nc nz na HH H; intro n1 n2 ng nc nz na HH
          go_wp2_with fail
          refine ho hKK ⟨(S.c 1 0 rfl rfl), ⟨(S.c 1 1 rfl rfl), ⟨(S.c 4 0 rfl rfl), (S.c 4 1 rfl rfl)⟩⟩⟩ fun hS => ?_
          clear hKK KK
          refine tk 4 hS ?_
          refine tk 5 hS ?_
          refine tk 6 hS ?_
          refine tk 7 hS ?_
          refine rd 10 fun KK hKK => ?_
          have c0 := S.c 7 0 rfl rfl; have f0 := S.f 7 0 rfl; have c1 := S.c 7 1 rfl rfl; have f1 := S.f 7 1 rfl; go_simp; clear hS c0 f0 c1 f1
          have H := S.hset 7 0 (.bool (negB y)) rfl rfl (by intro q n e; cases e)
          replace S := S.set 7 0 (.bool (negB y)) rfl
          refine iv8 H n1 n2 ng nc nz na ny HH ?_; clear n1 n2 ng nc nz na ny HH H; intro n1 n2 ng nc nz na ny HH
          have H := S.hset 7 1 (.slice py ly Ky) rfl rfl (by intro q n e; cases e)
          replace S := S.set 7 1 (.slice py ly Ky) rfl
          refine iv8 H n1 n2 ng nc nz na ny HH ?_; clear n1 n2 ng nc nz na ny HH H; intro n1 n2 ng nc nz na ny HH
          refine ho hKK ⟨(S.c 1 0 rfl rfl), ⟨(S.c 1 1 rfl rfl), ⟨(S.c 4 0 rfl rfl), (S.c 4 1 rfl rfl)⟩⟩⟩ fun hS => ?_
          generalize ((w28.setCell ⟨w12.heap.size, 0, none⟩ (.bool (negB y))).setCell ⟨w12.heap.size, 1, none⟩ (.slice py ly Ky)) = w29 at S n1 n2 ng nc nz na ny HH hS ⊢
          clear hKK KK
          refine rd 11 fun KK hKK => ?_
          have c0 := S.c 8 0 rfl rfl; have f0 := S.f 8 0 rfl; have c1 := S.c 8 1 rfl rfl; have f1 := S.f 8 1 rfl; go_simp; clear hS c0 f0 c1 f1
          have H := S.hset 8 0 (.bool (negB yr)) rfl rfl (by intro q n e; cases e)
          replace S := S.set 8 0 (.bool (negB yr)) rfl
          refine iv8 H n1 n2 ng nc nz na ny HH ?_; clear n1 n2 ng nc nz na ny HH H; intro n1 n2 ng nc nz na ny HH
          have H := S.hset 8 1 (.slice pv lv Kv) rfl rfl (by intro q n e; cases e)
          replace S := S.set 8 1 (.slice pv lv Kv) rfl
          refine iv8 H n1 n2 ng nc nz na ny HH ?_; clear n1 n2 ng nc nz na ny HH H; intro n1 n2 ng nc nz na ny HH
          refine ho hKK ⟨(S.c 1 0 rfl rfl), ⟨(S.c 1 1 rfl rfl), ⟨(S.c 4 0 rfl rfl), (S.c 4 1 rfl rfl)⟩⟩⟩ fun hS => ?_
          generalize ((w29.setCell ⟨w22.heap.size, 0, none⟩ (.bool (negB yr))).setCell ⟨w22.heap.size, 1, none⟩ (.slice pv lv Kv)) = w30 at S n1 n2 ng nc nz na ny HH hS ⊢
          clear hKK KK
          refine rd 12 fun KK hKK => ?_
          go_simp
          refine ho hKK hS fun hS => ?_
          clear hKK KK
          refine wpAnyH_done (by kernel_rfl) ?_ _
          go_wp2_with fail
          go_meet
          case rel => exact ⟨w12.heap.size, py, ly, Ky, rfl, S.sub (.cons_cons _ (.cons_cons _ (.cons_cons _ (.cons_cons _ (.cons_cons _ (.cons_cons _ (.cons_cons _ (.cons_cons _ (.cons _ (.slnil)))))))))), ny, HH⟩
      ·
        go_simp; clear hS
        have H := S.hnew 25 [.bool false, .slice none 0 0]
        replace S := S.al 25 [.bool false, .slice none 0 0] (w12.heap.size)
        refine iv7 H n1 n2 ng nc nz na HH ?_; clear n1 n2 ng nc nz na HH H; intro n1 n2 ng nc nz na HH
        refine ho hKK ⟨(S.c 1 0 rfl rfl), ⟨(S.c 1 1 rfl rfl), ⟨(S.c 4 0 rfl rfl), (S.c 4 1 rfl rfl)⟩⟩⟩ fun hS => ?_
        generalize (w12.alloc (.cells #[.bool false, .slice none 0 0] 25)) = w31 at S n1 n2 ng nc nz na HH hS ⊢
        clear hKK KK
        refine wpAnyH_ready (rs := [3, 8]) (by kernel_rfl) (by simp) (AllReadyH.cons (opOf rfl) (fun KK hKK => ?_) (AllReadyH.cons (opOf rfl) (fun KK hKK => ?_) AllReadyH.nil))
        ·
          go_simp; clear hS
          refine S.cl (wdiv_to ⟨_, _, _, rfl, na⟩ ⟨_, _, _, rfl, nc⟩ HD.out.2.2.2.1 HG.out.2.1 y yr HG.out.2.2 HZ.out.2.2.1 HZ.out.2.2.2) ?_; clear S; rintro e w32 ⟨_, _, rfl, ⟨py, ly, Ky, rfl, ny⟩, ⟨pv, lv, Kv, rfl, nv⟩⟩ S H
          refine iv7 H n1 n2 ng nc nz na HH ?_; clear n1 n2 ng nc nz na HH H; intro n1 n2 ng nc nz na HH
          go_wp2_with fail
          refine ho hKK ⟨(S.c 1 0 rfl rfl), ⟨(S.c 1 1 rfl rfl), ⟨(S.c 4 0 rfl rfl), (S.c 4 1 rfl rfl)⟩⟩⟩ fun hS => ?_
          clear hKK KK
          refine tk 4 hS ?_
          refine tk 5 hS ?_
          refine tk 6 hS ?_
          refine tk 7 hS ?_
          refine rd 8 fun KK hKK => ?_
          go_simp; clear hS
          have H := S.hnew 25 [.bool false, .slice none 0 0]
          replace S := S.al 25 [.bool false, .slice none 0 0] (w32.heap.size)
          refine iv8 H n1 n2 ng nc nz na ny HH ?_; clear n1 n2 ng nc nz na ny HH H; intro n1 n2 ng nc nz na ny HH
          refine ho hKK ⟨(S.c 1 0 rfl rfl), ⟨(S.c 1 1 rfl rfl), ⟨(S.c 4 0 rfl rfl), (S.c 4 1 rfl rfl)⟩⟩⟩ fun hS => ?_
          generalize (w32.alloc (.cells #[.bool false, .slice none 0 0] 25)) = w33 at S n1 n2 ng nc nz na ny HH hS ⊢
          clear hKK KK
          refine rd 10 fun KK hKK => ?_
          have c0 := S.c 8 0 rfl rfl; have f0 := S.f 8 0 rfl; have c1 := S.c 8 1 rfl rfl; have f1 := S.f 8 1 rfl; go_simp; clear hS c0 f0 c1 f1
          have H := S.hset 8 0 (.bool (negB y)) rfl rfl (by intro q n e; cases e)
          replace S := S.set 8 0 (.bool (negB y)) rfl
          refine iv8 H n1 n2 ng nc nz na ny HH ?_; clear n1 n2 ng nc nz na ny HH H; intro n1 n2 ng nc nz na ny HH
          have H := S.hset 8 1 (.slice py ly Ky) rfl rfl (by intro q n e; cases e)
          replace S := S.set 8 1 (.slice py ly Ky) rfl
          refine iv8 H n1 n2 ng nc nz na ny HH ?_; clear n1 n2 ng nc nz na ny HH H; intro n1 n2 ng nc nz na ny HH
          refine ho hKK ⟨(S.c 1 0 rfl rfl), ⟨(S.c 1 1 rfl rfl), ⟨(S.c 4 0 rfl rfl), (S.c 4 1 rfl rfl)⟩⟩⟩ fun hS => ?_
          generalize ((w33.setCell ⟨w32.heap.size, 0, none⟩ (.bool (negB y))).setCell ⟨w32.heap.size, 1, none⟩ (.slice py ly Ky)) = w34 at S n1 n2 ng nc nz na ny HH hS ⊢
          clear hKK KK
          refine rd 11 fun KK hKK => ?_
          have c0 := S.c 7 0 rfl rfl; have f0 := S.f 7 0 rfl; have c1 := S.c 7 1 rfl rfl; have f1 := S.f 7 1 rfl; go_simp; clear hS c0 f0 c1 f1
          have H := S.hset 7 0 (.bool (negB yr)) rfl rfl (by intro q n e; cases e)
          replace S := S.set 7 0 (.bool (negB yr)) rfl
          refine iv8 H n1 n2 ng nc nz na ny HH ?_; clear n1 n2 ng nc nz na ny HH H; intro n1 n2 ng nc nz na ny HH
          have H := S.hset 7 1 (.slice pv lv Kv) rfl rfl (by intro q n e; cases e)
          replace S := S.set 7 1 (.slice pv lv Kv) rfl
          refine iv8 H n1 n2 ng nc nz na ny HH ?_; clear n1 n2 ng nc nz na ny HH H; intro n1 n2 ng nc nz na ny HH
          refine ho hKK ⟨(S.c 1 0 rfl rfl), ⟨(S.c 1 1 rfl rfl), ⟨(S.c 4 0 rfl rfl), (S.c 4 1 rfl rfl)⟩⟩⟩ fun hS => ?_
          generalize ((w34.setCell ⟨w12.heap.size, 0, none⟩ (.bool (negB yr))).setCell ⟨w12.heap.size, 1, none⟩ (.slice pv lv Kv)) = w35 at S n1 n2 ng nc nz na ny HH hS ⊢
          clear hKK KK
          refine rd 12 fun KK hKK => ?_
          go_simp
          refine ho hKK hS fun hS => ?_
          clear hKK KK
          refine wpAnyH_done (by kernel_rfl) ?_ _
          go_wp2_with fail
          go_meet
          case rel => exact ⟨w32.heap.size, py, ly, Ky, rfl, S.sub (.cons_cons _ (.cons_cons _ (.cons_cons _ (.cons_cons _ (.cons_cons _ (.cons_cons _ (.cons_cons _ (.cons _ (.cons_cons _ (.slnil)))))))))), ny, HH⟩
        ·
          go_simp; clear hS
          have H := S.hnew 25 [.bool false, .slice none 0 0]
          replace S := S.al 25 [.bool false, .slice none 0 0] (w31.heap.size)
          refine iv7 H n1 n2 ng nc nz na HH ?_; clear n1 n2 ng nc nz na HH H; intro n1 n2 ng nc nz na HH
          refine ho hKK ⟨(S.c 1 0 rfl rfl), ⟨(S.c 1 1 rfl rfl), ⟨(S.c 4 0 rfl rfl), (S.c 4 1 rfl rfl)⟩⟩⟩ fun hS => ?_
          generalize (w31.alloc (.cells #[.bool false, .slice none 0 0] 25)) = w36 at S n1 n2 ng nc nz na HH hS ⊢
          clear hKK KK
          refine rd 3 fun KK hKK => ?_
          go_simp; clear hS
          refine S.cl (wdiv_to ⟨_, _, _, rfl, na⟩ ⟨_, _, _, rfl, nc⟩ HD.out.2.2.2.1 HG.out.2.1 y yr HG.out.2.2 HZ.out.2.2.1 HZ.out.2.2.2) ?_; clear S; rintro e w37 ⟨_, _, rfl, ⟨py, ly, Ky, rfl, ny⟩, ⟨pv, lv, Kv, rfl, nv⟩⟩ S H
          refine iv7 H n1 n2 ng nc nz na HH ?_; clear n1 n2 ng nc nz na HH H; intro n1 n2 ng nc nz na HH
          go_wp2_with fail
          refine ho hKK ⟨(S.c 1 0 rfl rfl), ⟨(S.c 1 1 rfl rfl), ⟨(S.c 4 0 rfl rfl), (S.c 4 1 rfl rfl)⟩⟩⟩ fun hS => ?_
          clear hKK KK
          refine tk 4 hS ?_
          refine tk 5 hS ?_
          refine tk 6 hS ?_
          refine tk 7 hS ?_
          refine rd 10 fun KK hKK => ?_
          have c0 := S.c 8 0 rfl rfl; have f0 := S.f 8 0 rfl; have c1 := S.c 8 1 rfl rfl; have f1 := S.f 8 1 rfl; go_simp; clear hS c0 f0 c1 f1
          have H := S.hset 8 0 (.bool (negB y)) rfl rfl (by intro q n e; cases e)
          replace S := S.set 8 0 (.bool (negB y)) rfl
          refine iv8 H n1 n2 ng nc nz na ny HH ?_; clear n1 n2 ng nc nz na ny HH H; intro n1 n2 ng nc nz na ny HH
          have H := S.hset 8 1 (.slice py ly Ky) rfl rfl (by intro q n e; cases e)
          replace S := S.set 8 1 (.slice py ly Ky) rfl
          refine iv8 H n1 n2 ng nc nz na ny HH ?_; clear n1 n2 ng nc nz na ny HH H; intro n1 n2 ng nc nz na ny HH
          refine ho hKK ⟨(S.c 1 0 rfl rfl), ⟨(S.c 1 1 rfl rfl), ⟨(S.c 4 0 rfl rfl), (S.c 4 1 rfl rfl)⟩⟩⟩ fun hS => ?_
          generalize ((w37.setCell ⟨w31.heap.size, 0, none⟩ (.bool (negB y))).setCell ⟨w31.heap.size, 1, none⟩ (.slice py ly Ky)) = w38 at S n1 n2 ng nc nz na ny HH hS ⊢
          clear hKK KK
          refine rd 11 fun KK hKK => ?_
          have c0 := S.c 7 0 rfl rfl; have f0 := S.f 7 0 rfl; have c1 := S.c 7 1 rfl rfl; have f1 := S.f 7 1 rfl; go_simp; clear hS c0 f0 c1 f1
          have H := S.hset 7 0 (.bool (negB yr)) rfl rfl (by intro q n e; cases e)
          replace S := S.set 7 0 (.bool (negB yr)) rfl
          refine iv8 H n1 n2 ng nc nz na ny HH ?_; clear n1 n2 ng nc nz na ny HH H; intro n1 n2 ng nc nz na ny HH
          have H := S.hset 7 1 (.slice pv lv Kv) rfl rfl (by intro q n e; cases e)
          replace S := S.set 7 1 (.slice pv lv Kv) rfl
          refine iv8 H n1 n2 ng nc nz na ny HH ?_; clear n1 n2 ng nc nz na ny HH H; intro n1 n2 ng nc nz na ny HH
          refine ho hKK ⟨(S.c 1 0 rfl rfl), ⟨(S.c 1 1 rfl rfl), ⟨(S.c 4 0 rfl rfl), (S.c 4 1 rfl rfl)⟩⟩⟩ fun hS => ?_
          generalize ((w38.setCell ⟨w12.heap.size, 0, none⟩ (.bool (negB yr))).setCell ⟨w12.heap.size, 1, none⟩ (.slice pv lv Kv)) = w39 at S n1 n2 ng nc nz na ny HH hS ⊢
          clear hKK KK
          refine rd 12 fun KK hKK => ?_
          go_simp
          refine ho hKK hS fun hS => ?_
          clear hKK KK
          refine wpAnyH_done (by kernel_rfl) ?_ _
          go_wp2_with fail
          go_meet
          case rel => exact ⟨w31.heap.size, py, ly, Ky, rfl, S.sub (.cons_cons _ (.cons_cons _ (.cons_cons _ (.cons_cons _ (.cons_cons _ (.cons_cons _ (.cons_cons _ (.cons _ (.cons_cons _ (.slnil)))))))))), ny, HH⟩
    ·
      go_simp; clear hS
      have H := S.hnew 25 [.bool false, .slice none 0 0]
      replace S := S.al 25 [.bool false, .slice none 0 0] (w11.heap.size)
      refine iv6 H n1 n2 ng nc nz HH ?_; clear n1 n2 ng nc nz HH H; intro n1 n2 ng nc nz HH
      refine ho hKK ⟨(S.c 1 0 rfl rfl), ⟨(S.c 1 1 rfl rfl), ⟨(S.c 4 0 rfl rfl), (S.c 4 1 rfl rfl)⟩⟩⟩ fun hS => ?_
      generalize (w11.alloc (.cells #[.bool false, .slice none 0 0] 25)) = w40 at S n1 n2 ng nc nz HH hS ⊢
      clear hKK KK
      refine wpAnyH_ready (rs := [1, 9]) (by kernel_rfl) (by simp) (AllReadyH.cons (opOf rfl) (fun KK hKK => ?_) (AllReadyH.cons (opOf rfl) (fun KK hKK => ?_) AllReadyH.nil))
      ·
        go_simp; clear hS
        refine S.cl (wabs_any ⟨_, _, _, by rw [HD.out.2.1], n2⟩ HD.out.2.2.2.1 ((d.natAbs : Nat) : Int) rfl) ?_; clear S; rintro e w41 ⟨_, rfl, pa, la, Ka, rfl, na⟩ S H
        refine iv6 H n1 n2 ng nc nz HH ?_; clear n1 n2 ng nc nz HH H; intro n1 n2 ng nc nz HH
        go_wp2_with fail
        refine ho hKK ⟨(S.c 1 0 rfl rfl), ⟨(S.c 1 1 rfl rfl), ⟨(S.c 4 0 rfl rfl), (S.c 4 1 rfl rfl)⟩⟩⟩ fun hS => ?_
        clear hKK KK
        refine wpAnyH_ready (rs := [3, 9]) (by kernel_rfl) (by simp) (AllReadyH.cons (opOf rfl) (fun KK hKK => ?_) (AllReadyH.cons (opOf rfl) (fun KK hKK => ?_) AllReadyH.nil))
        ·
          go_simp; clear hS
          refine S.cl (wdiv_to ⟨_, _, _, rfl, na⟩ ⟨_, _, _, rfl, nc⟩ HD.out.2.2.2.1 HG.out.2.1 y yr HG.out.2.2 HZ.out.2.2.1 HZ.out.2.2.2) ?_; clear S; rintro e w42 ⟨_, _, rfl, ⟨py, ly, Ky, rfl, ny⟩, ⟨pv, lv, Kv, rfl, nv⟩⟩ S H
          refine iv7 H n1 n2 ng nc nz na HH ?_; clear n1 n2 ng nc nz na HH H; intro n1 n2 ng nc nz na HH
          go_wp2_with fail
          refine ho hKK ⟨(S.c 1 0 rfl rfl), ⟨(S.c 1 1 rfl rfl), ⟨(S.c 4 0 rfl rfl), (S.c 4 1 rfl rfl)⟩⟩⟩ fun hS => ?_
          clear hKK KK
          refine tk 4 hS ?_
          refine tk 5 hS ?_
          refine tk 6 hS ?_
          refine tk 7 hS ?_
          refine rd 9 fun KK hKK => ?_
          go_simp; clear hS
          have H := S.hnew 25 [.bool false, .slice none 0 0]
          replace S := S.al 25 [.bool false, .slice none 0 0] (w42.heap.size)
          refine iv8 H n1 n2 ng nc nz na ny HH ?_; clear n1 n2 ng nc nz na ny HH H; intro n1 n2 ng nc nz na ny HH
          refine ho hKK ⟨(S.c 1 0 rfl rfl), ⟨(S.c 1 1 rfl rfl), ⟨(S.c 4 0 rfl rfl), (S.c 4 1 rfl rfl)⟩⟩⟩ fun hS => ?_
          generalize (w42.alloc (.cells #[.bool false, .slice none 0 0] 25)) = w43 at S n1 n2 ng nc nz na ny HH hS ⊢
          clear hKK KK
          refine rd 10 fun KK hKK => ?_
          have c0 := S.c 7 0 rfl rfl; have f0 := S.f 7 0 rfl; have c1 := S.c 7 1 rfl rfl; have f1 := S.f 7 1 rfl; go_simp; clear hS c0 f0 c1 f1
          have H := S.hset 7 0 (.bool (negB y)) rfl rfl (by intro q n e; cases e)
          replace S := S.set 7 0 (.bool (negB y)) rfl
          refine iv8 H n1 n2 ng nc nz na ny HH ?_; clear n1 n2 ng nc nz na ny HH H; intro n1 n2 ng nc nz na ny HH
          have H := S.hset 7 1 (.slice py ly Ky) rfl rfl (by intro q n e; cases e)
          replace S := S.set 7 1 (.slice py ly Ky) rfl
          refine iv8 H n1 n2 ng nc nz na ny HH ?_; clear n1 n2 ng nc nz na ny HH H; intro n1 n2 ng nc nz na ny HH
          refine ho hKK ⟨(S.c 1 0 rfl rfl), ⟨(S.c 1 1 rfl rfl), ⟨(S.c 4 0 rfl rfl), (S.c 4 1 rfl rfl)⟩⟩⟩ fun hS => ?_
          generalize ((w43.setCell ⟨w11.heap.size, 0, none⟩ (.bool (negB y))).setCell ⟨w11.heap.size, 1, none⟩ (.slice py ly Ky)) = w44 at S n1 n2 ng nc nz na ny HH hS ⊢
          clear hKK KK
          refine rd 11 fun KK hKK => ?_
          have c0 := S.c 8 0 rfl rfl; have f0 := S.f 8 0 rfl; have c1 := S.c 8 1 rfl rfl; have f1 := S.f 8 1 rfl; go_simp; clear hS c0 f0 c1 f1
          have H := S.hset 8 0 (.bool (negB yr)) rfl rfl (by intro q n e; cases e)
          replace S := S.set 8 0 (.bool (negB yr)) rfl
          refine iv8 H n1 n2 ng nc nz na ny HH ?_; clear n1 n2 ng nc nz na ny HH H; intro n1 n2 ng nc nz na ny HH
          have H := S.hset 8 1 (.slice pv lv Kv) rfl rfl (by intro q n e; cases e)
          replace S := S.set 8 1 (.slice pv lv Kv) rfl
          refine iv8 H n1 n2 ng nc nz na ny HH ?_; clear n1 n2 ng nc nz na ny HH H; intro n1 n2 ng nc nz na ny HH
          refine ho hKK ⟨(S.c 1 0 rfl rfl), ⟨(S.c 1 1 rfl rfl), ⟨(S.c 4 0 rfl rfl), (S.c 4 1 rfl rfl)⟩⟩⟩ fun hS => ?_
          generalize ((w44.setCell ⟨w42.heap.size, 0, none⟩ (.bool (negB yr))).setCell ⟨w42.heap.size, 1, none⟩ (.slice pv lv Kv)) = w45 at S n1 n2 ng nc nz na ny HH hS ⊢
          clear hKK KK
          refine rd 12 fun KK hKK => ?_
          go_simp
          refine ho hKK hS fun hS => ?_
          clear hKK KK
          refine wpAnyH_done (by kernel_rfl) ?_ _
          go_wp2_with fail
          go_meet
          case rel => exact ⟨w11.heap.size, py, ly, Ky, rfl, S.sub (.cons_cons _ (.cons_cons _ (.cons_cons _ (.cons_cons _ (.cons_cons _ (.cons_cons _ (.cons_cons _ (.cons_cons _ (.cons _ (.slnil)))))))))), ny, HH⟩
        ·
          go_simp; clear hS
          have H := S.hnew 25 [.bool false, .slice none 0 0]
          replace S := S.al 25 [.bool false, .slice none 0 0] (w41.heap.size)
          refine iv7 H n1 n2 ng nc nz na HH ?_; clear n1 n2 ng nc nz na HH H; intro n1 n2 ng nc nz na HH
          refine ho hKK ⟨(S.c 1 0 rfl rfl), ⟨(S.c 1 1 rfl rfl), ⟨(S.c 4 0 rfl rfl), (S.c 4 1 rfl rfl)⟩⟩⟩ fun hS => ?_
          generalize (w41.alloc (.cells #[.bool false, .slice none 0 0] 25)) = w46 at S n1 n2 ng nc nz na HH hS ⊢
          clear hKK KK
          refine rd 3 fun KK hKK => ?_
          go_simp; clear hS
          refine S.cl (wdiv_to ⟨_, _, _, rfl, na⟩ ⟨_, _, _, rfl, nc⟩ HD.out.2.2.2.1 HG.out.2.1 y yr HG.out.2.2 HZ.out.2.2.1 HZ.out.2.2.2) ?_; clear S; rintro e w47 ⟨_, _, rfl, ⟨py, ly, Ky, rfl, ny⟩, ⟨pv, lv, Kv, rfl, nv⟩⟩ S H
          refine iv7 H n1 n2 ng nc nz na HH ?_; clear n1 n2 ng nc nz na HH H; intro n1 n2 ng nc nz na HH
          go_wp2_with fail
          refine ho hKK ⟨(S.c 1 0 rfl rfl), ⟨(S.c 1 1 rfl rfl), ⟨(S.c 4 0 rfl rfl), (S.c 4 1 rfl rfl)⟩⟩⟩ fun hS => ?_
          clear hKK KK
          refine tk 4 hS ?_
          refine tk 5 hS ?_
          refine tk 6 hS ?_
          refine tk 7 hS ?_
          refine rd 10 fun KK hKK => ?_
          have c0 := S.c 7 0 rfl rfl; have f0 := S.f 7 0 rfl; have c1 := S.c 7 1 rfl rfl; have f1 := S.f 7 1 rfl; go_simp; clear hS c0 f0 c1 f1
          have H := S.hset 7 0 (.bool (negB y)) rfl rfl (by intro q n e; cases e)
          replace S := S.set 7 0 (.bool (negB y)) rfl
          refine iv8 H n1 n2 ng nc nz na ny HH ?_; clear n1 n2 ng nc nz na ny HH H; intro n1 n2 ng nc nz na ny HH
          have H := S.hset 7 1 (.slice py ly Ky) rfl rfl (by intro q n e; cases e)
          replace S := S.set 7 1 (.slice py ly Ky) rfl
          refine iv8 H n1 n2 ng nc nz na ny HH ?_; clear n1 n2 ng nc nz na ny HH H; intro n1 n2 ng nc nz na ny HH
          refine ho hKK ⟨(S.c 1 0 rfl rfl), ⟨(S.c 1 1 rfl rfl), ⟨(S.c 4 0 rfl rfl), (S.c 4 1 rfl rfl)⟩⟩⟩ fun hS => ?_
          generalize ((w47.setCell ⟨w11.heap.size, 0, none⟩ (.bool (negB y))).setCell ⟨w11.heap.size, 1, none⟩ (.slice py ly Ky)) = w48 at S n1 n2 ng nc nz na ny HH hS ⊢
          clear hKK KK
          refine rd 11 fun KK hKK => ?_
          have c0 := S.c 8 0 rfl rfl; have f0 := S.f 8 0 rfl; have c1 := S.c 8 1 rfl rfl; have f1 := S.f 8 1 rfl; go_simp; clear hS c0 f0 c1 f1
          have H := S.hset 8 0 (.bool (negB yr)) rfl rfl (by intro q n e; cases e)
          replace S := S.set 8 0 (.bool (negB yr)) rfl
          refine iv8 H n1 n2 ng nc nz na ny HH ?_; clear n1 n2 ng nc nz na ny HH H; intro n1 n2 ng nc nz na ny HH
          have H := S.hset 8 1 (.slice pv lv Kv) rfl rfl (by intro q n e; cases e)
          replace S := S.set 8 1 (.slice pv lv Kv) rfl
          refine iv8 H n1 n2 ng nc nz na ny HH ?_; clear n1 n2 ng nc nz na ny HH H; intro n1 n2 ng nc nz na ny HH
          refine ho hKK ⟨(S.c 1 0 rfl rfl), ⟨(S.c 1 1 rfl rfl), ⟨(S.c 4 0 rfl rfl), (S.c 4 1 rfl rfl)⟩⟩⟩ fun hS => ?_
          generalize ((w48.setCell ⟨w41.heap.size, 0, none⟩ (.bool (negB yr))).setCell ⟨w41.heap.size, 1, none⟩ (.slice pv lv Kv)) = w49 at S n1 n2 ng nc nz na ny HH hS ⊢
          clear hKK KK
          refine rd 12 fun KK hKK => ?_
          go_simp
          refine ho hKK hS fun hS => ?_
          clear hKK KK
          refine wpAnyH_done (by kernel_rfl) ?_ _
          go_wp2_with fail
          go_meet
          case rel => exact ⟨w11.heap.size, py, ly, Ky, rfl, S.sub (.cons_cons _ (.cons_cons _ (.cons_cons _ (.cons_cons _ (.cons_cons _ (.cons_cons _ (.cons_cons _ (.cons_cons _ (.cons _ (.slnil)))))))))), ny, HH⟩
      ·
        go_simp; clear hS
        have H := S.hnew 25 [.bool false, .slice none 0 0]
        replace S := S.al 25 [.bool false, .slice none 0 0] (w40.heap.size)
        refine iv6 H n1 n2 ng nc nz HH ?_; clear n1 n2 ng nc nz HH H; intro n1 n2 ng nc nz HH
        refine ho hKK ⟨(S.c 1 0 rfl rfl), ⟨(S.c 1 1 rfl rfl), ⟨(S.c 4 0 rfl rfl), (S.c 4 1 rfl rfl)⟩⟩⟩ fun hS => ?_
        generalize (w40.alloc (.cells #[.bool false, .slice none 0 0] 25)) = w50 at S n1 n2 ng nc nz HH hS ⊢
        clear hKK KK
        refine rd 1 fun KK hKK => ?_
        go_simp; clear hS
        refine S.cl (wabs_any ⟨_, _, _, by rw [HD.out.2.1], n2⟩ HD.out.2.2.2.1 ((d.natAbs : Nat) : Int) rfl) ?_; clear S; rintro e w51 ⟨_, rfl, pa, la, Ka, rfl, na⟩ S H
        refine iv6 H n1 n2 ng nc nz HH ?_; clear n1 n2 ng nc nz HH H; intro n1 n2 ng nc nz HH
        go_wp2_with fail
        refine ho hKK ⟨(S.c 1 0 rfl rfl), ⟨(S.c 1 1 rfl rfl), ⟨(S.c 4 0 rfl rfl), (S.c 4 1 rfl rfl)⟩⟩⟩ fun hS => ?_
        clear hKK KK
        refine rd 3 fun KK hKK => ?_
        go_simp; clear hS
        refine S.cl (wdiv_to ⟨_, _, _, rfl, na⟩ ⟨_, _, _, rfl, nc⟩ HD.out.2.2.2.1 HG.out.2.1 y yr HG.out.2.2 HZ.out.2.2.1 HZ.out.2.2.2) ?_; clear S; rintro e w52 ⟨_, _, rfl, ⟨py, ly, Ky, rfl, ny⟩, ⟨pv, lv, Kv, rfl, nv⟩⟩ S H
        refine iv7 H n1 n2 ng nc nz na HH ?_; clear n1 n2 ng nc nz na HH H; intro n1 n2 ng nc nz na HH
        go_wp2_with fail
        refine ho hKK ⟨(S.c 1 0 rfl rfl), ⟨(S.c 1 1 rfl rfl), ⟨(S.c 4 0 rfl rfl), (S.c 4 1 rfl rfl)⟩⟩⟩ fun hS => ?_
        clear hKK KK
        refine tk 4 hS ?_
        refine tk 5 hS ?_
        refine tk 6 hS ?_
        refine tk 7 hS ?_
        refine rd 10 fun KK hKK => ?_
        have c0 := S.c 7 0 rfl rfl; have f0 := S.f 7 0 rfl; have c1 := S.c 7 1 rfl rfl; have f1 := S.f 7 1 rfl; go_simp; clear hS c0 f0 c1 f1
        have H := S.hset 7 0 (.bool (negB y)) rfl rfl (by intro q n e; cases e)
        replace S := S.set 7 0 (.bool (negB y)) rfl
        refine iv8 H n1 n2 ng nc nz na ny HH ?_; clear n1 n2 ng nc nz na ny HH H; intro n1 n2 ng nc nz na ny HH
        have H := S.hset 7 1 (.slice py ly Ky) rfl rfl (by intro q n e; cases e)
        replace S := S.set 7 1 (.slice py ly Ky) rfl
        refine iv8 H n1 n2 ng nc nz na ny HH ?_; clear n1 n2 ng nc nz na ny HH H; intro n1 n2 ng nc nz na ny HH
        refine ho hKK ⟨(S.c 1 0 rfl rfl), ⟨(S.c 1 1 rfl rfl), ⟨(S.c 4 0 rfl rfl), (S.c 4 1 rfl rfl)⟩⟩⟩ fun hS => ?_
        generalize ((w52.setCell ⟨w11.heap.size, 0, none⟩ (.bool (negB y))).setCell ⟨w11.heap.size, 1, none⟩ (.slice py ly Ky)) = w53 at S n1 n2 ng nc nz na ny HH hS ⊢
        clear hKK KK
        refine rd 11 fun KK hKK => ?_
        have c0 := S.c 8 0 rfl rfl; have f0 := S.f 8 0 rfl; have c1 := S.c 8 1 rfl rfl; have f1 := S.f 8 1 rfl; go_simp; clear hS c0 f0 c1 f1
        have H := S.hset 8 0 (.bool (negB yr)) rfl rfl (by intro q n e; cases e)
        replace S := S.set 8 0 (.bool (negB yr)) rfl
        refine iv8 H n1 n2 ng nc nz na ny HH ?_; clear n1 n2 ng nc nz na ny HH H; intro n1 n2 ng nc nz na ny HH
        have H := S.hset 8 1 (.slice pv lv Kv) rfl rfl (by intro q n e; cases e)
        replace S := S.set 8 1 (.slice pv lv Kv) rfl
        refine iv8 H n1 n2 ng nc nz na ny HH ?_; clear n1 n2 ng nc nz na ny HH H; intro n1 n2 ng nc nz na ny HH
        refine ho hKK ⟨(S.c 1 0 rfl rfl), ⟨(S.c 1 1 rfl rfl), ⟨(S.c 4 0 rfl rfl), (S.c 4 1 rfl rfl)⟩⟩⟩ fun hS => ?_
        generalize ((w53.setCell ⟨w40.heap.size, 0, none⟩ (.bool (negB yr))).setCell ⟨w40.heap.size, 1, none⟩ (.slice pv lv Kv)) = w54 at S n1 n2 ng nc nz na ny HH hS ⊢
        clear hKK KK
        refine rd 12 fun KK hKK => ?_
        go_simp
        refine ho hKK hS fun hS => ?_
        clear hKK KK
        refine wpAnyH_done (by kernel_rfl) ?_ _
        go_wp2_with fail
        go_meet
        case rel => exact ⟨w11.heap.size, py, ly, Ky, rfl, S.sub (.cons_cons _ (.cons_cons _ (.cons_cons _ (.cons_cons _ (.cons_cons _ (.cons_cons _ (.cons_cons _ (.cons_cons _ (.cons _ (.slnil)))))))))), ny, HH⟩
    ·
      go_simp; clear hS
      have H := S.hnew 25 [.bool false, .slice none 0 0]
      replace S := S.al 25 [.bool false, .slice none 0 0] (w11.heap.size)
      refine iv6 H n1 n2 ng nc nz HH ?_; clear n1 n2 ng nc nz HH H; intro n1 n2 ng nc nz HH
      refine ho hKK ⟨(S.c 1 0 rfl rfl), ⟨(S.c 1 1 rfl rfl), ⟨(S.c 4 0 rfl rfl), (S.c 4 1 rfl rfl)⟩⟩⟩ fun hS => ?_
      generalize (w11.alloc (.cells #[.bool false, .slice none 0 0] 25)) = w55 at S n1 n2 ng nc nz HH hS ⊢
      clear hKK KK
      refine wpAnyH_ready (rs := [1, 8]) (by kernel_rfl) (by simp) (AllReadyH.cons (opOf rfl) (fun KK hKK => ?_) (AllReadyH.cons (opOf rfl) (fun KK hKK => ?_) AllReadyH.nil))
      ·
        go_simp; clear hS
        refine S.cl (wabs_any ⟨_, _, _, by rw [HD.out.2.1], n2⟩ HD.out.2.2.2.1 ((d.natAbs : Nat) : Int) rfl) ?_; clear S; rintro e w56 ⟨_, rfl, pa, la, Ka, rfl, na⟩ S H
        refine iv6 H n1 n2 ng nc nz HH ?_; clear n1 n2 ng nc nz HH H; intro n1 n2 ng nc nz HH
        go_wp2_with fail
        refine ho hKK ⟨(S.c 1 0 rfl rfl), ⟨(S.c 1 1 rfl rfl), ⟨(S.c 4 0 rfl rfl), (S.c 4 1 rfl rfl)⟩⟩⟩ fun hS => ?_
        clear hKK KK
        refine wpAnyH_ready (rs := [3, 8]) (by kernel_rfl) (by simp) (AllReadyH.cons (opOf rfl) (fun KK hKK => ?_) (AllReadyH.cons (opOf rfl) (fun KK hKK => ?_) AllReadyH.nil))
        ·
          go_simp; clear hS
          refine S.cl (wdiv_to ⟨_, _, _, rfl, na⟩ ⟨_, _, _, rfl, nc⟩ HD.out.2.2.2.1 HG.out.2.1 y yr HG.out.2.2 HZ.out.2.2.1 HZ.out.2.2.2) ?_; clear S; rintro e w57 ⟨_, _, rfl, ⟨py, ly, Ky, rfl, ny⟩, ⟨pv, lv, Kv, rfl, nv⟩⟩ S H
          refine iv7 H n1 n2 ng nc nz na HH ?_; clear n1 n2 ng nc nz na HH H; intro n1 n2 ng nc nz na HH
          go_wp2_with fail
          refine ho hKK ⟨(S.c 1 0 rfl rfl), ⟨(S.c 1 1 rfl rfl), ⟨(S.c 4 0 rfl rfl), (S.c 4 1 rfl rfl)⟩⟩⟩ fun hS => ?_
          clear hKK KK
          refine tk 4 hS ?_
          refine tk 5 hS ?_
          refine tk 6 hS ?_
          refine tk 7 hS ?_
          refine rd 8 fun KK hKK => ?_
          go_simp; clear hS
          have H := S.hnew 25 [.bool false, .slice none 0 0]
          replace S := S.al 25 [.bool false, .slice none 0 0] (w57.heap.size)
          refine iv8 H n1 n2 ng nc nz na ny HH ?_; clear n1 n2 ng nc nz na ny HH H; intro n1 n2 ng nc nz na ny HH
          refine ho hKK ⟨(S.c 1 0 rfl rfl), ⟨(S.c 1 1 rfl rfl), ⟨(S.c 4 0 rfl rfl), (S.c 4 1 rfl rfl)⟩⟩⟩ fun hS => ?_
          generalize (w57.alloc (.cells #[.bool false, .slice none 0 0] 25)) = w58 at S n1 n2 ng nc nz na ny HH hS ⊢
          clear hKK KK
          refine rd 10 fun KK hKK => ?_
          have c0 := S.c 8 0 rfl rfl; have f0 := S.f 8 0 rfl; have c1 := S.c 8 1 rfl rfl; have f1 := S.f 8 1 rfl; go_simp; clear hS c0 f0 c1 f1
          have H := S.hset 8 0 (.bool (negB y)) rfl rfl (by intro q n e; cases e)
          replace S := S.set 8 0 (.bool (negB y)) rfl
          refine iv8 H n1 n2 ng nc nz na ny HH ?_; clear n1 n2 ng nc nz na ny HH H; intro n1 n2 ng nc nz na ny HH
          have H := S.hset 8 1 (.slice py ly Ky) rfl rfl (by intro q n e; cases e)
          replace S := S.set 8 1 (.slice py ly Ky) rfl
          refine iv8 H n1 n2 ng nc nz na ny HH ?_; clear n1 n2 ng nc nz na ny HH H; intro n1 n2 ng nc nz na ny HH
          refine ho hKK ⟨(S.c 1 0 rfl rfl), ⟨(S.c 1 1 rfl rfl), ⟨(S.c 4 0 rfl rfl), (S.c 4 1 rfl rfl)⟩⟩⟩ fun hS => ?_
          generalize ((w58.setCell ⟨w57.heap.size, 0, none⟩ (.bool (negB y))).setCell ⟨w57.heap.size, 1, none⟩ (.slice py ly Ky)) = w59 at S n1 n2 ng nc nz na ny HH hS ⊢
          clear hKK KK
          refine rd 11 fun KK hKK => ?_
          have c0 := S.c 7 0 rfl rfl; have f0 := S.f 7 0 rfl; have c1 := S.c 7 1 rfl rfl; have f1 := S.f 7 1 rfl; go_simp; clear hS c0 f0 c1 f1
          have H := S.hset 7 0 (.bool (negB yr)) rfl rfl (by intro q n e; cases e)
          replace S := S.set 7 0 (.bool (negB yr)) rfl
          refine iv8 H n1 n2 ng nc nz na ny HH ?_; clear n1 n2 ng nc nz na ny HH H; intro n1 n2 ng nc nz na ny HH
          have H := S.hset 7 1 (.slice pv lv Kv) rfl rfl (by intro q n e; cases e)
          replace S := S.set 7 1 (.slice pv lv Kv) rfl
          refine iv8 H n1 n2 ng nc nz na ny HH ?_; clear n1 n2 ng nc nz na ny HH H; intro n1 n2 ng nc nz na ny HH
          refine ho hKK ⟨(S.c 1 0 rfl rfl), ⟨(S.c 1 1 rfl rfl), ⟨(S.c 4 0 rfl rfl), (S.c 4 1 rfl rfl)⟩⟩⟩ fun hS => ?_
          generalize ((w59.setCell ⟨w11.heap.size, 0, none⟩ (.bool (negB yr))).setCell ⟨w11.heap.size, 1, none⟩ (.slice pv lv Kv)) = w60 at S n1 n2 ng nc nz na ny HH hS ⊢
          clear hKK KK
          refine rd 12 fun KK hKK => ?_
          go_simp
          refine ho hKK hS fun hS => ?_
          clear hKK KK
          refine wpAnyH_done (by kernel_rfl) ?_ _
          go_wp2_with fail
          go_meet
          case rel => exact ⟨w57.heap.size, py, ly, Ky, rfl, S.sub (.cons_cons _ (.cons_cons _ (.cons_cons _ (.cons_cons _ (.cons_cons _ (.cons_cons _ (.cons_cons _ (.cons _ (.cons_cons _ (.slnil)))))))))), ny, HH⟩
        ·
          go_simp; clear hS
          have H := S.hnew 25 [.bool false, .slice none 0 0]
          replace S := S.al 25 [.bool false, .slice none 0 0] (w56.heap.size)
          refine iv7 H n1 n2 ng nc nz na HH ?_; clear n1 n2 ng nc nz na HH H; intro n1 n2 ng nc nz na HH
          refine ho hKK ⟨(S.c 1 0 rfl rfl), ⟨(S.c 1 1 rfl rfl), ⟨(S.c 4 0 rfl rfl), (S.c 4 1 rfl rfl)⟩⟩⟩ fun hS => ?_
          generalize (w56.alloc (.cells #[.bool false, .slice none 0 0] 25)) = w61 at S n1 n2 ng nc nz na HH hS ⊢
          clear hKK KK
          refine rd 3 fun KK hKK => ?_
          go_simp; clear hS
          refine S.cl (wdiv_to ⟨_, _, _, rfl, na⟩ ⟨_, _, _, rfl, nc⟩ HD.out.2.2.2.1 HG.out.2.1 y yr HG.out.2.2 HZ.out.2.2.1 HZ.out.2.2.2) ?_; clear S; rintro e w62 ⟨_, _, rfl, ⟨py, ly, Ky, rfl, ny⟩, ⟨pv, lv, Kv, rfl, nv⟩⟩ S H
          refine iv7 H n1 n2 ng nc nz na HH ?_; clear n1 n2 ng nc nz na HH H; intro n1 n2 ng nc nz na HH
          go_wp2_with fail
          refine ho hKK ⟨(S.c 1 0 rfl rfl), ⟨(S.c 1 1 rfl rfl), ⟨(S.c 4 0 rfl rfl), (S.c 4 1 rfl rfl)⟩⟩⟩ fun hS => ?_
          clear hKK KK
          refine tk 4 hS ?_
          refine tk 5 hS ?_
          refine tk 6 hS ?_
          refine tk 7 hS ?_
          refine rd 10 fun KK hKK => ?_
          have c0 := S.c 8 0 rfl rfl; have f0 := S.f 8 0 rfl; have c1 := S.c 8 1 rfl rfl; have f1 := S.f 8 1 rfl; go_simp; clear hS c0 f0 c1 f1
          have H := S.hset 8 0 (.bool (negB y)) rfl rfl (by intro q n e; cases e)
          replace S := S.set 8 0 (.bool (negB y)) rfl
          refine iv8 H n1 n2 ng nc nz na ny HH ?_; clear n1 n2 ng nc nz na ny HH H; intro n1 n2 ng nc nz na ny HH
          have H := S.hset 8 1 (.slice py ly Ky) rfl rfl (by intro q n e; cases e)
          replace S := S.set 8 1 (.slice py ly Ky) rfl
          refine iv8 H n1 n2 ng nc nz na ny HH ?_; clear n1 n2 ng nc nz na ny HH H; intro n1 n2 ng nc nz na ny HH
          refine ho hKK ⟨(S.c 1 0 rfl rfl), ⟨(S.c 1 1 rfl rfl), ⟨(S.c 4 0 rfl rfl), (S.c 4 1 rfl rfl)⟩⟩⟩ fun hS => ?_
          generalize ((w62.setCell ⟨w56.heap.size, 0, none⟩ (.bool (negB y))).setCell ⟨w56.heap.size, 1, none⟩ (.slice py ly Ky)) = w63 at S n1 n2 ng nc nz na ny HH hS ⊢
          clear hKK KK
          refine rd 11 fun KK hKK => ?_
          have c0 := S.c 7 0 rfl rfl; have f0 := S.f 7 0 rfl; have c1 := S.c 7 1 rfl rfl; have f1 := S.f 7 1 rfl; go_simp; clear hS c0 f0 c1 f1
          have H := S.hset 7 0 (.bool (negB yr)) rfl rfl (by intro q n e; cases e)
          replace S := S.set 7 0 (.bool (negB yr)) rfl
          refine iv8 H n1 n2 ng nc nz na ny HH ?_; clear n1 n2 ng nc nz na ny HH H; intro n1 n2 ng nc nz na ny HH
          have H := S.hset 7 1 (.slice pv lv Kv) rfl rfl (by intro q n e; cases e)
          replace S := S.set 7 1 (.slice pv lv Kv) rfl
          refine iv8 H n1 n2 ng nc nz na ny HH ?_; clear n1 n2 ng nc nz na ny HH H; intro n1 n2 ng nc nz na ny HH
          refine ho hKK ⟨(S.c 1 0 rfl rfl), ⟨(S.c 1 1 rfl rfl), ⟨(S.c 4 0 rfl rfl), (S.c 4 1 rfl rfl)⟩⟩⟩ fun hS => ?_
          generalize ((w63.setCell ⟨w11.heap.size, 0, none⟩ (.bool (negB yr))).setCell ⟨w11.heap.size, 1, none⟩ (.slice pv lv Kv)) = w64 at S n1 n2 ng nc nz na ny HH hS ⊢
          clear hKK KK
          refine rd 12 fun KK hKK => ?_
          go_simp
          refine ho hKK hS fun hS => ?_
          clear hKK KK
          refine wpAnyH_done (by kernel_rfl) ?_ _
          go_wp2_with fail
          go_meet
          case rel => exact ⟨w56.heap.size, py, ly, Ky, rfl, S.sub (.cons_cons _ (.cons_cons _ (.cons_cons _ (.cons_cons _ (.cons_cons _ (.cons_cons _ (.cons_cons _ (.cons _ (.cons_cons _ (.slnil)))))))))), ny, HH⟩
      ·
        go_simp; clear hS
        have H := S.hnew 25 [.bool false, .slice none 0 0]
        replace S := S.al 25 [.bool false, .slice none 0 0] (w55.heap.size)
        refine iv6 H n1 n2 ng nc nz HH ?_; clear n1 n2 ng nc nz HH H; intro n1 n2 ng nc nz HH
        refine ho hKK ⟨(S.c 1 0 rfl rfl), ⟨(S.c 1 1 rfl rfl), ⟨(S.c 4 0 rfl rfl), (S.c 4 1 rfl rfl)⟩⟩⟩ fun hS => ?_
        generalize (w55.alloc (.cells #[.bool false, .slice none 0 0] 25)) = w65 at S n1 n2 ng nc nz HH hS ⊢
        clear hKK KK
        refine rd 1 fun KK hKK => ?_
        go_simp; clear hS
        refine S.cl (wabs_any ⟨_, _, _, by rw [HD.out.2.1], n2⟩ HD.out.2.2.2.1 ((d.natAbs : Nat) : Int) rfl) ?_; clear S; rintro e w66 ⟨_, rfl, pa, la, Ka, rfl, na⟩ S H
        refine iv6 H n1 n2 ng nc nz HH ?_; clear n1 n2 ng nc nz HH H; intro n1 n2 ng nc nz HH
        go_wp2_with fail
        refine ho hKK ⟨(S.c 1 0 rfl rfl), ⟨(S.c 1 1 rfl rfl), ⟨(S.c 4 0 rfl rfl), (S.c 4 1 rfl rfl)⟩⟩⟩ fun hS => ?_
        clear hKK KK
        refine rd 3 fun KK hKK => ?_
        go_simp; clear hS
        refine S.cl (wdiv_to ⟨_, _, _, rfl, na⟩ ⟨_, _, _, rfl, nc⟩ HD.out.2.2.2.1 HG.out.2.1 y yr HG.out.2.2 HZ.out.2.2.1 HZ.out.2.2.2) ?_; clear S; rintro e w67 ⟨_, _, rfl, ⟨py, ly, Ky, rfl, ny⟩, ⟨pv, lv, Kv, rfl, nv⟩⟩ S H
        refine iv7 H n1 n2 ng nc nz na HH ?_; clear n1 n2 ng nc nz na HH H; intro n1 n2 ng nc nz na HH
        go_wp2_with fail
        refine ho hKK ⟨(S.c 1 0 rfl rfl), ⟨(S.c 1 1 rfl rfl), ⟨(S.c 4 0 rfl rfl), (S.c 4 1 rfl rfl)⟩⟩⟩ fun hS => ?_
        clear hKK KK
        refine tk 4 hS ?_
        refine tk 5 hS ?_
        refine tk 6 hS ?_
        refine tk 7 hS ?_
        refine rd 10 fun KK hKK => ?_
        have c0 := S.c 8 0 rfl rfl; have f0 := S.f 8 0 rfl; have c1 := S.c 8 1 rfl rfl; have f1 := S.f 8 1 rfl; go_simp; clear hS c0 f0 c1 f1
        have H := S.hset 8 0 (.bool (negB y)) rfl rfl (by intro q n e; cases e)
        replace S := S.set 8 0 (.bool (negB y)) rfl
        refine iv8 H n1 n2 ng nc nz na ny HH ?_; clear n1 n2 ng nc nz na ny HH H; intro n1 n2 ng nc nz na ny HH
        have H := S.hset 8 1 (.slice py ly Ky) rfl rfl (by intro q n e; cases e)
        replace S := S.set 8 1 (.slice py ly Ky) rfl
        refine iv8 H n1 n2 ng nc nz na ny HH ?_; clear n1 n2 ng nc nz na ny HH H; intro n1 n2 ng nc nz na ny HH
        refine ho hKK ⟨(S.c 1 0 rfl rfl), ⟨(S.c 1 1 rfl rfl), ⟨(S.c 4 0 rfl rfl), (S.c 4 1 rfl rfl)⟩⟩⟩ fun hS => ?_
        generalize ((w67.setCell ⟨w55.heap.size, 0, none⟩ (.bool (negB y))).setCell ⟨w55.heap.size, 1, none⟩ (.slice py ly Ky)) = w68 at S n1 n2 ng nc nz na ny HH hS ⊢
        clear hKK KK
        refine rd 11 fun KK hKK => ?_
        have c0 := S.c 7 0 rfl rfl; have f0 := S.f 7 0 rfl; have c1 := S.c 7 1 rfl rfl; have f1 := S.f 7 1 rfl; go_simp; clear hS c0 f0 c1 f1
        have H := S.hset 7 0 (.bool (negB yr)) rfl rfl (by intro q n e; cases e)
        replace S := S.set 7 0 (.bool (negB yr)) rfl
        refine iv8 H n1 n2 ng nc nz na ny HH ?_; clear n1 n2 ng nc nz na ny HH H; intro n1 n2 ng nc nz na ny HH
        have H := S.hset 7 1 (.slice pv lv Kv) rfl rfl (by intro q n e; cases e)
        replace S := S.set 7 1 (.slice pv lv Kv) rfl
        refine iv8 H n1 n2 ng nc nz na ny HH ?_; clear n1 n2 ng nc nz na ny HH H; intro n1 n2 ng nc nz na ny HH
        refine ho hKK ⟨(S.c 1 0 rfl rfl), ⟨(S.c 1 1 rfl rfl), ⟨(S.c 4 0 rfl rfl), (S.c 4 1 rfl rfl)⟩⟩⟩ fun hS => ?_
        generalize ((w68.setCell ⟨w11.heap.size, 0, none⟩ (.bool (negB yr))).setCell ⟨w11.heap.size, 1, none⟩ (.slice pv lv Kv)) = w69 at S n1 n2 ng nc nz na ny HH hS ⊢
        clear hKK KK
        refine rd 12 fun KK hKK => ?_
        go_simp
        refine ho hKK hS fun hS => ?_
        clear hKK KK
        refine wpAnyH_done (by kernel_rfl) ?_ _
        go_wp2_with fail
        go_meet
        case rel => exact ⟨w55.heap.size, py, ly, Ky, rfl, S.sub (.cons_cons _ (.cons_cons _ (.cons_cons _ (.cons_cons _ (.cons_cons _ (.cons_cons _ (.cons_cons _ (.cons _ (.cons_cons _ (.slnil)))))))))), ny, HH⟩
  case rest =>
    obtain ⟨g11, py, ly, Ky, rfl, S, ny, HH⟩ := hcut
    obtain ⟨w70, rfl⟩ : ∃ W : World, W = wc := ⟨_, rfl⟩
    refine iv5 HH n1 n2 ng nc nz ?_; clear n1 n2 ng nc nz HH; intro n1 n2 ng nc nz
    cases b2 with
    | false =>
      have HN := Lib.hid (HQ.out.2.2.1 rfl)
      have c0_ := S.c2 0 rfl; have c1_ := S.c2 1 rfl; have c2_ := S.c3 2 rfl; have c4_ := S.c2 4 rfl; have c5_ := S.c2 5 rfl; have c7_0 := S.c 7 0 rfl rfl; have c7_1 := S.c 7 1 rfl rfl
      obtain ⟨f2_0, f2_1, f2_2⟩ := S.f3 2 rfl
      have HP := S.putq 2 (.bool (negB z)) (.slice pz lz Kz) (.slice py ly Ky) rfl rfl; have H := HP.2; replace S := HP.1; clear HP
      refine iv6 H n1 n2 ng nc nz ny ?_; clear n1 n2 ng nc nz ny; intro n1 n2 ng nc nz ny
      clear H; go_wp2_with fail; obtain ⟨d2_0, d2_1, d2_2⟩ := S.c3 2 rfl
      exact bodyPost_ret (v := .tuple #[.agg #[.bool (negB z), .slice pz lz Kz, .slice py ly Ky], .int .i64 0]) (by simp [results, Tryz.f128, go_sem, d2_0, d2_1, d2_2]) rfl (⟨⟨_, rfl, negB z, pz, lz, Kz, py, ly, Ky, rfl, by rw [HN.out]; rfl, by rw [HN.out]; exact nz, by rw [← HQ.out.1]; exact ny⟩, S.below⟩)
    | true =>
      have HN := Lib.hid (HQ.out.2.2.2 rfl)
      have c0_ := S.c2 0 rfl; have c1_ := S.c2 1 rfl; have c2_ := S.c3 2 rfl; have c4_ := S.c2 4 rfl; have c5_ := S.c2 5 rfl; have c7_0 := S.c 7 0 rfl rfl; have c7_1 := S.c 7 1 rfl rfl; go_wp2_with fail; clear c0_ c1_ c2_ c4_ c5_ c7_0 c7_1
      refine S.cl (wneg_to ⟨_, _, _, rfl, nz⟩ HQ.out.2.1 (-z) rfl) ?_; clear S; rintro e w71 ⟨_, rfl, pw, lw, Kw, rfl, nw⟩ S H
      refine iv6 H n1 n2 ng nc nz ny ?_; clear n1 n2 ng nc nz ny; intro n1 n2 ng nc nz ny
      clear H; have c0_ := S.c2 0 rfl; have c1_ := S.c2 1 rfl; have c2_ := S.c3 2 rfl; have c4_ := S.c2 4 rfl; have c5_ := S.c2 5 rfl; have c7_0 := S.c 7 0 rfl rfl; have c7_1 := S.c 7 1 rfl rfl; have f5_0 := S.f 5 0 rfl
      have H := S.hset 5 0 (.bool (negB (-z))) rfl rfl (by intro q n e; cases e)
      replace S := S.set 5 0 (.bool (negB (-z))) rfl
      refine iv7 H n1 n2 ng nc nz ny nw ?_; clear n1 n2 ng nc nz ny nw; intro n1 n2 ng nc nz ny nw
      clear H; have f5_1 := S.f 5 1 rfl
      have H := S.hset 5 1 (.slice pw lw Kw) rfl rfl (by intro q n e; cases e)
      replace S := S.set 5 1 (.slice pw lw Kw) rfl
      refine iv7 H n1 n2 ng nc nz ny nw ?_; clear n1 n2 ng nc nz ny nw; intro n1 n2 ng nc nz ny nw
      clear H; have c5_ := S.c2 5 rfl; have c7_1 := S.c 7 1 rfl rfl; have c2_ := S.c3 2 rfl
      obtain ⟨f2_0, f2_1, f2_2⟩ := S.f3 2 rfl
      have HP := S.putq 2 (.bool (negB (-z))) (.slice pw lw Kw) (.slice py ly Ky) rfl rfl; have H := HP.2; replace S := HP.1; clear HP
      refine iv7 H n1 n2 ng nc nz ny nw ?_; clear n1 n2 ng nc nz ny nw; intro n1 n2 ng nc nz ny nw
      clear H; go_wp2_with fail; obtain ⟨d2_0, d2_1, d2_2⟩ := S.c3 2 rfl
      exact bodyPost_ret (v := .tuple #[.agg #[.bool (negB (-z)), .slice pw lw Kw, .slice py ly Ky], .int .i64 0]) (by simp [results, Tryz.f128, go_sem, d2_0, d2_1, d2_2]) rfl (⟨⟨_, rfl, negB (-z), pw, lw, Kw, py, ly, Ky, rfl, by rw [HN.out]; rfl, by rw [HN.out]; exact nw, by rw [← HQ.out.1]; exact ny⟩, S.below⟩)
theorem rbz {x y : Rat} {a b : Nat} (h : RB x a) (k : RB y b) : (x.num * y.den).natAbs < NB (a + b) ∧ (y.num * x.den).natAbs < NB (a + b) ∧ x.den * y.den < NB (a + b) ∧ (x.num * y.num).natAbs < NB (a + b) := by
  refine ⟨nbz_mul h.1 k.2, ?_, nb_mul h.2 k.2, nbz_mul h.1 k.1⟩
  rw [Nat.add_comm]
  exact nbz_mul k.1 h.2
theorem num_ne {y : Rat} (h : y ≠ 0) : y.num ≠ 0 := fun e => h (Rat.num_eq_zero.1 e)
theorem rb_max {x : Rat} {a : Nat} (h : RB x a) (hk : a ≤ 512) : x.num.natAbs < maxN ∧ x.den < maxN := ⟨nb_max h.1 hk, nb_max h.2 hk⟩
def cmpR (x y : Rat) : Int := cmpI (x.num * y.den) (y.num * x.den)
set_option maxRecDepth 100000 in
set_option maxHeartbeats 4000000 in
theorem rcompare_any {va vb : Value} {x y : Rat} {w : World} (ha : IsRat w va x) (hb : IsRat w vb y) {k1 k2 : Nat} (hx : RB x k1) (hy : RB y k2) (hk : k1 + k2 ≤ 511) (c : Int) (hc : cmpR x y = c) :
    Calls Tryz.prog 87 #[va, vb] w fun e w' => e = .returned (.tuple #[.int .i64 c, .int .i64 0]) ∧ Below w.heap.size w w' := by
  obtain ⟨b1, p1, l1, K1, q1, j1, J1, rfl, hb1, n1, d1⟩ := ha
  obtain ⟨b2, p2, l2, K2, q2, j2, J2, rfl, hb2, n2, d2⟩ := hb
  obtain ⟨X, hX⟩ : ∃ X, x.num * y.den = X := ⟨_, rfl⟩
  obtain ⟨Y, hY⟩ : ∃ Y, y.num * x.den = Y := ⟨_, rfl⟩
  have hb := rbz hx hy
  rw [hX, hY] at hb
  unfold cmpR at hc
  rw [hX, hY] at hc
  have HX := Lib.hid (And.intro (rb_max hx (by omega)) (rb_max hy (by omega)))
  have HD := Lib.hid (And.intro hX (And.intro hY hc))
  have HB := Lib.hid (And.intro (nb_max hb.1 (by omega)) (nb_max hb.2.1 (by omega)))
  clear hX hY hb hc hx hy hk
  have S := ((St.start w).alloc 34 [.bool b1, .slice p1 l1 K1, .slice q1 j1 J1] (w.heap.size)).alloc 34 [.bool b2, .slice p2 l2 K2, .slice q2 j2 J2] (w.heap.size + 1)
  try simp only [List.cons_append, List.nil_append] at S
  refine iv4 S.hold n1 d1 n2 d2 ?_; clear n1 d1 n2 d2; intro n1 d1 n2 d2
  have c0_ := S.c3 0 rfl; have c1_ := S.c3 1 rfl
  go_enter Tryz.func87, Tryz.ntmps87
  go_wp2_with fail; clear c0_ c1_
  refine S.cl (cross_any ⟨b1, p1, l1, K1, q1, j1, J1, rfl, hb1, n1, d1⟩ ⟨b2, p2, l2, K2, q2, j2, J2, rfl, hb2, n2, d2⟩ HX.out.1.1 HX.out.1.2 HX.out.2.1 HX.out.2.2 X Y HD.out.1 HD.out.2.1 HB.out.1 HB.out.2) ?_; clear S; rintro e w1 ⟨_, _, rfl, ⟨px, lx, Kx, rfl, nx⟩, ⟨py, ly, Ky, rfl, ny⟩⟩ S H
  refine iv4 H n1 d1 n2 d2 ?_; clear n1 d1 n2 d2; intro n1 d1 n2 d2
  clear H; have c0_ := S.c3 0 rfl; have c1_ := S.c3 1 rfl
  have H := S.hnew 25 [.bool (negB X), .slice px lx Kx]
  replace S := S.al 25 [.bool (negB X), .slice px lx Kx] (w1.heap.size)
  refine iv6 H n1 d1 n2 d2 nx ny ?_; clear n1 d1 n2 d2 nx ny; intro n1 d1 n2 d2 nx ny
  clear H
  have H := S.hnew 25 [.bool (negB Y), .slice py ly Ky]
  replace S := S.al 25 [.bool (negB Y), .slice py ly Ky] (w1.heap.size + 1)
  refine iv6 H n1 d1 n2 d2 nx ny ?_; clear n1 d1 n2 d2 nx ny; intro n1 d1 n2 d2 nx ny
  clear H; clear c0_ c1_; have c0_ := S.c3 0 rfl; have c1_ := S.c3 1 rfl; have c2_ := S.c2 2 rfl; have c3_ := S.c2 3 rfl; go_wp2_with fail; clear c0_ c1_ c2_ c3_
  refine S.cl (wcompare_to ⟨_, _, _, rfl, nx⟩ ⟨_, _, _, rfl, ny⟩ HB.out.1 HB.out.2 c HD.out.2.2) ?_; clear S; rintro e w2 rfl S H
  refine iv6 H n1 d1 n2 d2 nx ny ?_; clear n1 d1 n2 d2 nx ny; intro n1 d1 n2 d2 nx ny
  clear H; have c0_ := S.c3 0 rfl; have c1_ := S.c3 1 rfl; have c2_ := S.c2 2 rfl; have c3_ := S.c2 3 rfl; go_wp2_with fail
  exact bodyPost_ret (v := .tuple #[.int .i64 c, .int .i64 0]) (by simp [results, Tryz.f87, go_sem]) rfl (⟨rfl, S.below⟩)
theorem cmpR_lt {x y : Rat} (h : x < y) : cmpR x y = -1 := by
  have := (Rat.lt_iff x y).1 h
  unfold cmpR cmpI; rw [if_pos this]
theorem cmpR_gt {x y : Rat} (h : y < x) : cmpR x y = 1 := by
  have := (Rat.lt_iff y x).1 h
  unfold cmpR cmpI; rw [if_neg (by omega), if_pos this]
theorem cmpR_eq (x : Rat) : cmpR x x = 0 := by
  unfold cmpR cmpI; rw [if_neg (by omega), if_neg (by omega)]
theorem rat_three (x y : Rat) : x < y ∨ x = y ∨ y < x := by grind
theorem sgn_neg {x : Rat} (h : x < 0) : x.num.sign = -1 := by
  have := (Rat.lt_iff x 0).1 h
  simp at this
  exact Int.sign_eq_neg_one_of_neg this
theorem sgn_pos {x : Rat} (h : 0 < x) : x.num.sign = 1 := by
  have := (Rat.lt_iff 0 x).1 h
  simp at this
  exact Int.sign_eq_one_of_pos this
def dq (m e : Int) : Rat := (m : Rat) * (2 : Rat) ^ e
theorem two_ne : (2 : Rat) ≠ 0 := by decide +kernel
theorem two_pos : (0 : Rat) < 2 := by decide +kernel
theorem pow_pos2 (e : Int) : (0 : Rat) < (2 : Rat) ^ e := Rat.zpow_pos two_pos
theorem dq_zero (e : Int) : dq 0 e = 0 := by unfold dq; rw [Rat.intCast_zero, Rat.zero_mul]
theorem pow_nat (k : Nat) : (((2 ^ k : Nat) : Int) : Rat) = (2 : Rat) ^ (k : Int) := by
  rw [Rat.zpow_natCast]
  induction k with
  | zero => rfl
  | succ k ih => rw [Nat.pow_succ, Rat.pow_succ, ← ih, Int.natCast_mul, Rat.intCast_mul]; rfl
theorem dq_shift (m e : Int) (k : Nat) : dq (m * ((2 ^ k : Nat) : Int)) e = dq m (e + k) := by
  unfold dq
  rw [Rat.intCast_mul, pow_nat, Int.add_comm e, Rat.zpow_add two_ne, Rat.mul_assoc]
theorem dq_add (x y e : Int) : dq x e + dq y e = dq (x + y) e := by unfold dq; rw [Rat.intCast_add, Rat.add_mul]
theorem dq_neg (x e : Int) : -dq x e = dq (-x) e := by unfold dq; rw [Rat.intCast_neg, Rat.neg_mul]
theorem dq_mul (x y e f : Int) : dq x e * dq y f = dq (x * y) (e + f) := by
  unfold dq
  rw [Rat.intCast_mul, Rat.zpow_add two_ne]
  grind
theorem dq_lt (x y e : Int) : dq x e < dq y e ↔ x < y := by
  unfold dq
  rw [Rat.mul_lt_mul_right (pow_pos2 e), Rat.intCast_lt_intCast]
theorem dq_eq (x y e : Int) : dq x e = dq y e ↔ x = y := by
  constructor
  · intro h
    rcases Int.lt_trichotomy x y with h1 | h1 | h1
    · have := (dq_lt x y e).2 h1; rw [h] at this; exact absurd this (Rat.lt_irrefl)
    · exact h1
    · have := (dq_lt y x e).2 h1; rw [h] at this; exact absurd this (Rat.lt_irrefl)
  · intro h; rw [h]
theorem cmpR_dq (x y e : Int) : cmpR (dq x e) (dq y e) = cmpI x y := by
  unfold cmpI
  rcases Int.lt_trichotomy x y with h1 | h1 | h1
  · rw [if_pos h1, cmpR_lt ((dq_lt x y e).2 h1)]
  · subst h1; rw [if_neg (by omega), if_neg (by omega), cmpR_eq]
  · rw [if_neg (by omega), if_pos h1, cmpR_gt ((dq_lt y x e).2 h1)]
theorem dq_sign (m e : Int) : (dq m e).num.sign = m.sign := by
  rcases Int.lt_trichotomy m 0 with h1 | h1 | h1
  · have := (dq_lt m 0 e).2 h1
    rw [dq_zero] at this
    rw [sgn_neg this, Int.sign_eq_neg_one_of_neg h1]
  · subst h1; rw [dq_zero]; rfl
  · have := (dq_lt 0 m e).2 h1
    rw [dq_zero] at this
    rw [sgn_pos this, Int.sign_eq_one_of_pos h1]
theorem dq_abs (m e : Int) : (dq m e).abs = dq (m.natAbs : Nat) e := by
  rcases Int.lt_trichotomy m 0 with h1 | h1 | h1
  · have := (dq_lt m 0 e).2 h1
    rw [dq_zero] at this
    rw [Rat.abs_of_nonpos (by grind), dq_neg]
    congr 1; omega
  · subst h1; rw [dq_zero]; show _ = dq 0 e; rw [dq_zero]; rfl
  · have := (dq_lt 0 m e).2 h1
    rw [dq_zero] at this
    rw [Rat.abs_of_nonneg (by grind)]
    congr 1; omega
theorem dq_whole (m : Int) (k : Nat) : dq m (k : Int) = ((m * ((2 ^ k : Nat) : Int) : Int) : Rat) := by
  unfold dq
  rw [Rat.intCast_mul, pow_nat]
theorem dq_part (m : Int) (k : Nat) : dq m (-(k : Int)) = Rat.divInt m ((2 ^ k : Nat) : Int) := by
  unfold dq
  rw [Rat.zpow_neg, ← pow_nat, Rat.divInt_eq_div, Rat.div_def]
theorem odd_gcd {m : Int} (h : m % 2 = 1) (k : Nat) : Nat.gcd m.natAbs (2 ^ k) = 1 := by
  have h2 : Nat.Coprime m.natAbs 2 := by
    have : m.natAbs % 2 = 1 := by omega
    unfold Nat.Coprime
    rw [Nat.gcd_comm, Nat.gcd_rec, this]
    decide
  exact Nat.Coprime.pow_right k h2
theorem dq_stands {m : Int} (h : m % 2 = 1) (k : Nat) : (dq m (-(k : Int))).num = m ∧ (dq m (-(k : Int))).den = 2 ^ k := by
  have hk : (2 ^ k : Nat) ≠ 0 := Nat.pos_iff_ne_zero.1 (Nat.pow_pos (by decide))
  have e : dq m (-(k : Int)) = Rat.mk' m (2 ^ k) hk (by have := odd_gcd h k; exact this) := by
    rw [dq_part]
    rw [← Rat.mk_eq_divInt]
  rw [e]
  exact ⟨rfl, rfl⟩
theorem dq_le (x y e : Int) : dq x e ≤ dq y e ↔ x ≤ y := by
  have h := dq_lt y x e
  constructor
  · intro h1
    apply Int.not_lt.1
    intro h2
    exact absurd (h.2 h2) (Rat.not_lt.2 h1)
  · intro h1
    apply Rat.not_lt.1
    intro h2
    have := h.1 h2
    omega
theorem dq_one_pow (n : Nat) (e : Int) : dq ((2 ^ n : Nat) : Int) e = dq 1 (e + n) := by
  have := dq_shift 1 e n
  rwa [Int.one_mul] at this
theorem dq_one_mono {a b : Int} (h : a ≤ b) : dq 1 a ≤ dq 1 b := by
  obtain ⟨k, hk⟩ : ∃ k : Nat, b = a + k := ⟨(b - a).toNat, by omega⟩
  rw [hk, ← dq_one_pow, dq_le]
  have := Nat.two_pow_pos k
  omega
theorem dq_far {m1 m2 e1 e2 : Int} {n1 n2 : Nat} (h1 : m1 < ((2 ^ n1 : Nat) : Int)) (h2 : ((2 ^ (n2 - 1) : Nat) : Int) ≤ m2) (hn : 1 ≤ n2) (h : n1 + e1 < n2 + e2) : dq m1 e1 < dq m2 e2 := by
  have a1 := (dq_lt m1 _ e1).2 h1
  have a2 := (dq_le _ m2 e2).2 h2
  rw [dq_one_pow] at a1 a2
  have a3 := dq_one_mono (a := e1 + n1) (b := e2 + ((n2 - 1 : Nat) : Int)) (by omega)
  grind
theorem cmpR_neg (x y : Rat) : cmpR (-x) (-y) = cmpR y x := by
  rcases rat_three x y with h | h | h
  · rw [cmpR_gt h, cmpR_gt (show -y < -x by grind)]
  · subst h; rw [cmpR_eq, cmpR_eq]
  · rw [cmpR_lt h, cmpR_lt (show -x < -y by grind)]
theorem cmpR_sgn {x y : Rat} {s t : Int} (hs : x.num.sign = s) (ht : y.num.sign = t) (h : s ≠ t) : cmpR x y = cmpI s t := by
  subst hs; subst ht
  rcases rat_three x 0 with a | a | a <;> rcases rat_three y 0 with b | b | b
  all_goals
    first
      | (have e1 := sgn_neg a)
      | (have e1 := sgn_pos a)
      | (have e1 : x.num.sign = 0 := by rw [a]; rfl)
    first
      | (have e2 := sgn_neg b)
      | (have e2 := sgn_pos b)
      | (have e2 : y.num.sign = 0 := by rw [b]; rfl)
    rw [e1, e2] at h ⊢
    first
      | exact absurd rfl h
      | (rw [cmpR_lt (by grind)]; rfl)
      | (rw [cmpR_gt (by grind)]; rfl)
theorem cmpI_neg (a b : Int) : cmpI b a = -cmpI a b := by
  unfold cmpI
  rcases Int.lt_trichotomy a b with h | h | h
  · rw [if_neg (by omega), if_pos h, if_pos h]; rfl
  · rw [if_neg (by omega), if_neg (by omega), if_neg (by omega), if_neg (by omega)]; rfl
  · rw [if_pos h, if_neg (by omega), if_pos h]
theorem cmp_pow_pos {m1 m2 e1 e2 : Int} (h1 : 0 < m1) (h2 : 0 < m2) (h : (nbits m1.natAbs : Int) + e1 ≠ (nbits m2.natAbs : Int) + e2) : cmpR (dq m1 e1) (dq m2 e2) = cmpI ((nbits m1.natAbs : Int) + e1) ((nbits m2.natAbs : Int) + e2) := by
  obtain ⟨a1, a2, a3⟩ := nbits_spec (n := m1.natAbs) (by omega)
  obtain ⟨b1, b2, b3⟩ := nbits_spec (n := m2.natAbs) (by omega)
  generalize nbits m1.natAbs = n1 at *
  generalize nbits m2.natAbs = n2 at *
  rcases Int.lt_or_gt_of_ne h with h | h
  · rw [cmpR_lt (dq_far (n1 := n1) (n2 := n2) (by omega) (by omega) b1 h)]
    unfold cmpI; rw [if_pos h]
  · rw [cmpR_gt (dq_far (n1 := n2) (n2 := n1) (by omega) (by omega) a1 h)]
    unfold cmpI; rw [if_neg (by omega), if_pos h]
theorem cmp_pow {m1 m2 e1 e2 s : Int} (h1 : m1.sign = s) (h2 : m2.sign = s) (h0 : s ≠ 0) (h : (nbits m1.natAbs : Int) + e1 ≠ (nbits m2.natAbs : Int) + e2) : cmpR (dq m1 e1) (dq m2 e2) = s * cmpI ((nbits m1.natAbs : Int) + e1) ((nbits m2.natAbs : Int) + e2) := by
  rcases Int.lt_trichotomy m1 0 with k | k | k
  · have hs : s = -1 := by rw [← h1]; exact Int.sign_eq_neg_one_of_neg k
    have k2 : m2 < 0 := Int.sign_eq_neg_one_iff_neg.1 (h2.trans hs)
    have e3 : dq m1 e1 = -dq (-m1) e1 := by rw [dq_neg, Int.neg_neg]
    have e4 : dq m2 e2 = -dq (-m2) e2 := by rw [dq_neg, Int.neg_neg]
    have := cmp_pow_pos (m1 := -m2) (m2 := -m1) (e1 := e2) (e2 := e1) (by omega) (by omega) (by rw [Int.natAbs_neg, Int.natAbs_neg]; exact fun e => h e.symm)
    rw [Int.natAbs_neg, Int.natAbs_neg] at this
    rw [e3, e4, cmpR_neg, this, hs, cmpI_neg]
    omega
  · rw [k] at h1; exact absurd h1.symm h0
  · have hs : s = 1 := by rw [← h1]; exact Int.sign_eq_one_of_pos k
    have k2 : 0 < m2 := Int.sign_eq_one_iff_pos.1 (h2.trans hs)
    rw [cmp_pow_pos k k2 h, hs, Int.one_mul]
@[irreducible] def PB (n : Nat) : Nat := 2 ^ n
theorem PB_is (n : Nat) : PB n = 2 ^ n := by unfold PB; rfl
theorem PB_mono {a b : Nat} (h : a ≤ b) : PB a ≤ PB b := by rw [PB_is, PB_is]; exact Nat.pow_le_pow_right (by decide) h
theorem PB_add (a b : Nat) : PB (a + b) = PB a * PB b := by rw [PB_is, PB_is, PB_is, Nat.pow_add]
theorem PB_pos (a : Nat) : 0 < PB a := by rw [PB_is]; exact Nat.two_pow_pos a
theorem PB_NB (k : Nat) : NB k = PB (32 * k) := by unfold NB; rw [PB_is, show (4294967296 : Nat) = 2 ^ 32 by decide, ← Nat.pow_mul]
theorem pb_mono {m a b : Nat} (h : m < PB a) (hk : a ≤ b) : m < PB b := Nat.lt_of_lt_of_le h (PB_mono hk)
theorem pb_max {m n : Nat} (h : m < PB n) (hn : n ≤ 16384) : m < maxN := nb_max (k := 512) (by rw [PB_NB]; exact pb_mono h (by omega)) (by omega)
theorem pb_nb {m n k : Nat} (h : m < PB n) (hn : n ≤ 32 * k) : m < NB k := by rw [PB_NB]; exact pb_mono h hn
theorem nb_pb {m n k : Nat} (h : m < NB k) (hn : 32 * k ≤ n) : m < PB n := by rw [PB_NB] at h; exact pb_mono h hn
def DyC (m e : Int) : Prop := (m = 0 ∧ e = 0) ∨ m % 2 = 1
def ZF (z e : Int) (L H : Nat) : Prop := -(L : Int) ≤ e ∧ z.natAbs * 2 ^ (e + L).toNat < PB (H + L)
def DyF (m e : Int) (x : Rat) (L H : Nat) : Prop := DyC m e ∧ ZF m e L H ∧ dq m e = x
def IsD (w : World) (v : Value) (x : Rat) (L H : Nat) : Prop := ∃ b p l K m e, v = .agg #[.bool b, .slice p l K, .int .i64 e] ∧ Hid (negB m = b) ∧ IsNat w (.slice p l K) m.natAbs ∧ Hid (DyF m e x L H)
theorem ZF.size {z e : Int} {L H : Nat} (h : ZF z e L H) : z.natAbs < PB (H + L) :=
  Nat.lt_of_le_of_lt (Nat.le_mul_of_pos_right _ (Nat.two_pow_pos _)) h.2
theorem ZF.max {z e : Int} {L H : Nat} (h : ZF z e L H) (hL : H + L ≤ 16384) : z.natAbs < maxN := pb_max h.size hL
theorem ZF.exp {z e : Int} {L H : Nat} (h : ZF z e L H) (h0 : z ≠ 0) : e < H := by
  have h1 : 2 ^ (e + L).toNat ≤ z.natAbs * 2 ^ (e + L).toNat := Nat.le_mul_of_pos_left _ (by omega)
  have h2 := Nat.lt_of_le_of_lt h1 h.2
  rw [PB_is] at h2
  have h3 := (Nat.pow_lt_pow_iff_right (by decide : 1 < 2)).1 h2
  have := h.1
  omega
theorem ZF.mono {z e : Int} {L H L' H' : Nat} (h : ZF z e L H) (hL : L ≤ L') (hH : H ≤ H') : ZF z e L' H' := by
  obtain ⟨h1, h2⟩ := h
  refine ⟨by omega, ?_⟩
  have e1 : (e + L').toNat = (e + L).toNat + (L' - L) := by omega
  have e2 : H' + L' = (H + L) + (L' - L) + (H' - H) := by omega
  rw [e1, e2, Nat.pow_add, ← Nat.mul_assoc, PB_add, PB_add, PB_is (L' - L)]
  calc z.natAbs * 2 ^ (e + L).toNat * 2 ^ (L' - L) < PB (H + L) * 2 ^ (L' - L) := Nat.mul_lt_mul_of_pos_right h2 (Nat.two_pow_pos _)
    _ ≤ PB (H + L) * 2 ^ (L' - L) * PB (H' - H) := Nat.le_mul_of_pos_right _ (PB_pos _)
theorem ZF.neg {z e : Int} {L H : Nat} (h : ZF z e L H) : ZF (-z) e L H := ⟨h.1, by rw [Int.natAbs_neg]; exact h.2⟩
theorem ZF.zero {e : Int} {L H : Nat} (h : -(L : Int) ≤ e) : ZF 0 e L H := ⟨h, by rw [Int.natAbs_zero, Nat.zero_mul]; exact PB_pos _⟩
theorem ZF.of {z e : Int} {L H n : Nat} (hz : z.natAbs < PB n) (he : -(L : Int) ≤ e) (hH : n + e ≤ H) : ZF z e L H := by
  refine ⟨he, ?_⟩
  have e1 : H + L = n + (e + L).toNat + (H - (n + e).toNat) ∨ n + (e + L).toNat ≤ H + L := by omega
  have e2 : n + (e + L).toNat ≤ H + L := by omega
  refine Nat.lt_of_lt_of_le ?_ (PB_mono e2)
  rw [PB_add, PB_is ((e + L).toNat)]
  exact Nat.mul_lt_mul_of_pos_right hz (Nat.two_pow_pos _)
theorem DyF.mono {m e : Int} {x : Rat} {L H L' H' : Nat} (h : DyF m e x L H) (hL : L ≤ L') (hH : H ≤ H') : DyF m e x L' H' := ⟨h.1, h.2.1.mono hL hH, h.2.2⟩
theorem DyF.exp {m e : Int} {x : Rat} {L H : Nat} (h : DyF m e x L H) : -(L : Int) ≤ e ∧ e ≤ H := by
  refine ⟨h.2.1.1, ?_⟩
  rcases h.1 with ⟨_, h2⟩ | h2
  · omega
  · have := h.2.1.exp (by omega); omega
theorem DyF.max {m e : Int} {x : Rat} {L H : Nat} (h : DyF m e x L H) (hL : H + L ≤ 16384) : m.natAbs < maxN := h.2.1.max hL
theorem IsD.mono {w : World} {v : Value} {x : Rat} {L H L' H' : Nat} (h : IsD w v x L H) (hL : L ≤ L') (hH : H ≤ H') : IsD w v x L' H' := by
  obtain ⟨b, p, l, K, m, e, h1, h2, h3, h4⟩ := h
  exact ⟨b, p, l, K, m, e, h1, h2, h3, h4.out.mono hL hH⟩
theorem IsD.hold {w w' : World} {v : Value} {x : Rat} {L H : Nat} (h : Hold w w') : IsD w v x L H → IsD w' v x L H
  | ⟨b, p, l, K, m, e, h1, h2, h3, h4⟩ => ⟨b, p, l, K, m, e, h1, h2, h3.hold h, h4⟩
instance hdI8 {w w' : World} {v : Value} {x : Rat} {L H : Nat} : Hd w w' (IsD w v x L H) (IsD w' v x L H) := ⟨IsD.hold⟩
theorem DyF.zero (L H : Nat) : DyF 0 0 0 L H := ⟨.inl ⟨rfl, rfl⟩, ZF.zero (by omega), dq_zero 0⟩
theorem tail_le {n t k : Nat} (h : TailIs n t) (h0 : n ≠ 0) (hn : n < PB k) : t ≤ k := by
  rcases h with ⟨h, _⟩ | ⟨m, rfl⟩
  · omega
  · have h1 : 2 ^ t ≤ 2 ^ t * (2 * m + 1) := Nat.le_mul_of_pos_right _ (by omega)
    rw [PB_is] at hn
    have := (Nat.pow_lt_pow_iff_right (by decide : 1 < 2)).1 (Nat.lt_of_le_of_lt h1 hn)
    omega
theorem tail_odd {z : Int} {t : Nat} (h0 : z ≠ 0) (h : TailIs z.natAbs t) : ∃ o : Int, o % 2 = 1 ∧ z = o * ((2 ^ t : Nat) : Int) ∧ z / 2 ^ t = o ∧ z.natAbs = o.natAbs * 2 ^ t := by
  rcases h with ⟨h, _⟩ | ⟨m, hm⟩
  · omega
  have hp := Nat.two_pow_pos t
  obtain ⟨p, hpp⟩ : ∃ p : Nat, 2 ^ t = p := ⟨_, rfl⟩
  rw [hpp] at hm hp
  have hpI : (2 : Int) ^ t = (p : Int) := by rw [← hpp]; simp
  rw [hpI, hpp]
  have key : ∀ o : Int, z = o * (p : Int) → z / (p : Int) = o := fun o ho => by rw [ho]; exact Int.mul_ediv_cancel _ (by omega)
  rcases Int.lt_trichotomy z 0 with hz | hz | hz
  · have e : z = -((2 * m + 1 : Nat) : Int) * (p : Int) := by rw [Int.neg_mul, ← Int.natCast_mul, Nat.mul_comm, ← hm]; omega
    exact ⟨-((2 * m + 1 : Nat) : Int), by omega, e, key _ e, by rw [hm, Nat.mul_comm]; congr 1⟩
  · omega
  · have e : z = ((2 * m + 1 : Nat) : Int) * (p : Int) := by rw [← Int.natCast_mul, Nat.mul_comm, ← hm]; omega
    exact ⟨((2 * m + 1 : Nat) : Int), by omega, e, key _ e, by rw [hm, Nat.mul_comm]; congr 1⟩
theorem dyf_make {z e : Int} {t L H : Nat} (h0 : z ≠ 0) (h : TailIs z.natAbs t) (hz : ZF z e L H) : DyF (z / 2 ^ t) (e + t) (dq z e) L H := by
  obtain ⟨o, h1, h2, h3, h4⟩ := tail_odd h0 h
  have hl := hz.1
  rw [h3]
  refine ⟨.inr h1, ⟨by omega, ?_⟩, ?_⟩
  · have e1 : (e + (t : Int) + L).toNat = t + (e + L).toNat := by omega
    rw [e1, Nat.pow_add, ← Nat.mul_assoc, ← h4]
    exact hz.2
  · conv => rhs; rw [h2]
    rw [dq_shift]
theorem make_exp {z e : Int} {t L H : Nat} (h0 : z ≠ 0) (h : TailIs z.natAbs t) (hz : ZF z e L H) : e + t < H := by
  have h1 := dyf_make h0 h hz
  obtain ⟨o, a1, _, a3, _⟩ := tail_odd h0 h
  rw [a3] at h1
  exact h1.2.1.exp (by omega)
theorem dyc_sign {m e : Int} {x : Rat} {L H : Nat} (h : DyF m e x L H) : x.num.sign = m.sign := by rw [← h.2.2]; exact dq_sign m e
theorem dq_odd {m e z f : Int} (hm : m % 2 = 1) (h : dq m e = dq z f) : ∃ t : Nat, z = m * ((2 ^ t : Nat) : Int) ∧ e = f + t := by
  by_cases hlt : f ≤ e
  · obtain ⟨t, ht⟩ : ∃ t : Nat, e = f + t := ⟨(e - f).toNat, by omega⟩
    rw [ht, ← dq_shift, dq_eq] at h
    exact ⟨t, h.symm, ht⟩
  · obtain ⟨t, ht⟩ : ∃ t : Nat, f = e + (t + 1 : Nat) := ⟨(f - e).toNat - 1, by omega⟩
    rw [ht, ← dq_shift, dq_eq, Nat.pow_succ, Int.natCast_mul, ← Int.mul_assoc] at h
    omega
theorem dyc_uniq {m e n f : Int} (h : DyC m e) (g : DyC n f) (he : dq m e = dq n f) : m = n ∧ e = f := by
  rcases h with ⟨h1, h2⟩ | h <;> rcases g with ⟨g1, g2⟩ | g
  · omega
  · rw [h1, dq_zero] at he
    have := (dq_eq n 0 f).1 (by rw [← he, dq_zero])
    omega
  · rw [g1, dq_zero] at he
    have := (dq_eq m 0 e).1 (by rw [he, dq_zero])
    omega
  · obtain ⟨t, h1, h2⟩ := dq_odd h he
    obtain ⟨s, g1, g2⟩ := dq_odd g he.symm
    have : t = 0 := by omega
    subst this
    exact ⟨by rw [h1]; simp, by omega⟩
theorem wrap_int {z : Int} (h0 : -9223372036854775808 ≤ z) (h1 : z ≤ 9223372036854775807) : IntKind.i64.wrap z = z := by
  rw [show ∀ y, IntKind.i64.wrap y = (y + 9223372036854775808) % 18446744073709551616 - 9223372036854775808 from fun y => by simp [IntKind.wrap, IntKind.bits, IntKind.signed]; omega]
  omega
set_option maxRecDepth 100000 in
theorem exp_in (e : Int) (w : World) (h0 : -65536 ≤ e) (h1 : e ≤ 65536) : Calls Tryz.prog 147 #[.int .i64 e] w fun ev w' => ev = .returned (.bool true) ∧ Below w.heap.size w w' := by
  have S := St.start w
  go_enter Tryz.func147, Tryz.ntmps147
  go_wp2_with fail
  exact bodyPost_ret (v := .bool true) (by simp [results, Tryz.f147, go_sem]) rfl (⟨rfl, S.below⟩)
set_option maxRecDepth 100000 in
theorem exp_out (e : Int) (w : World) (h : e < -65536 ∨ 65536 < e) : Calls Tryz.prog 147 #[.int .i64 e] w fun ev w' => ev = .returned (.bool false) ∧ Below w.heap.size w w' := by
  by_cases h0 : -65536 ≤ e
  · have h1 : ¬ e ≤ 65536 := by omega
    clear h
    have S := St.start w
    go_enter Tryz.func147, Tryz.ntmps147
    go_wp2_with fail
    exact bodyPost_ret (v := .bool false) (by simp [results, Tryz.f147, go_sem]) rfl (⟨rfl, S.below⟩)
  · clear h
    have S := St.start w
    go_enter Tryz.func147, Tryz.ntmps147
    go_wp2_with fail
    exact bodyPost_ret (v := .bool false) (by simp [results, Tryz.f147, go_sem]) rfl (⟨rfl, S.below⟩)
set_option maxRecDepth 100000 in
theorem bits_in (n : Int) (w : World) (h0 : 2 ≤ n) (h1 : n ≤ 4096) : Calls Tryz.prog 135 #[.int .i64 n] w fun ev w' => ev = .returned (.bool true) ∧ Below w.heap.size w w' := by
  have S := St.start w
  go_enter Tryz.func135, Tryz.ntmps135
  go_wp2_with fail
  exact bodyPost_ret (v := .bool true) (by simp [results, Tryz.f135, go_sem]) rfl (⟨rfl, S.below⟩)
set_option maxRecDepth 100000 in
set_option maxHeartbeats 4000000 in
theorem dmake_any {va : Value} {z e : Int} {w : World} {L H : Nat} (hT : Tab w) (ha : IsInt w va z) (hz : ZF z e L H) (hLH : H + L ≤ 16384) (x : Rat) (hx : dq z e = x) :
    Calls Tryz.prog 90 #[va, .int .i64 e] w fun ev w' => (∃ u, ev = .returned (.tuple #[u, .int .i64 0]) ∧ IsD w' u x L H) ∧ Below w.heap.size w w' := by
  obtain ⟨p1, l1, K1, rfl, n1⟩ := ha
  obtain ⟨b1, hb1⟩ : ∃ b1, negB z = b1 := ⟨_, rfl⟩
  rw [hb1]
  have HD := Lib.hid (And.intro hT (And.intro hz (And.intro hLH (And.intro hx (And.intro (hz.max hLH) hb1)))))
  by_cases h0 : z = 0
  · subst h0
    have hx0 : x = 0 := by rw [← hx]; exact dq_zero e
    subst hx0
    clear hT hz hLH hx hb1
    have S := ((St.start w).alloc 25 [.bool b1, .slice p1 l1 K1] (w.heap.size)).alloc 27 [.bool false, .slice none 0 0, .int .i64 0] (w.heap.size + 1)
    try simp only [List.cons_append, List.nil_append] at S
    replace n1 := n1.hold S.hold
    have c0_ := S.c2 0 rfl; have c1_ := S.c3 1 rfl
    go_enter Tryz.func90, Tryz.ntmps90
    go_wp2_with fail; clear c0_ c1_
    refine S.cl (wsign_any (z := 0) (s := 0) ⟨_, _, _, by rw [HD.out.2.2.2.2.2], n1⟩ (lt_maxN (by decide)) rfl) ?_; clear S; rintro e w1 rfl S H
    replace n1 := n1.hold H; clear H; have c0_ := S.c2 0 rfl; have c1_ := S.c3 1 rfl; clear c0_ c1_; have c0_ := S.c2 0 rfl; have c1_ := S.c3 1 rfl
    obtain ⟨f1_0, f1_1, f1_2⟩ := S.f3 1 rfl
    have HP := S.put3 1 (.bool false) (.slice none 0 0) (.int .i64 0) rfl rfl; have H := HP.2; replace S := HP.1; clear HP
    replace n1 := n1.hold32 H; clear H; go_wp2_with fail; obtain ⟨d1_0, d1_1, d1_2⟩ := S.c3 1 rfl
    exact bodyPost_ret (v := .tuple #[.agg #[.bool false, .slice none 0 0, .int .i64 0], .int .i64 0]) (by simp [results, Tryz.f90, go_sem, d1_0, d1_1, d1_2]) rfl (⟨⟨_, rfl, false, none, 0, 0, 0, 0, rfl, rfl, IsNat.zero _, DyF.zero _ _⟩, S.below⟩)
  · obtain ⟨s, hs⟩ : ∃ s, z.sign = s := ⟨_, rfl⟩
    have hs1 : (s == 0) = false := by rw [← hs]; simpa using fun h => h0 (Int.sign_eq_zero_iff_zero.1 h)
    have HS := Lib.hid hs
    have HZ := Lib.hid h0
    clear hT hz hLH hx hb1 h0 hs
    have S := ((St.start w).alloc 25 [.bool b1, .slice p1 l1 K1] (w.heap.size)).alloc 27 [.bool false, .slice none 0 0, .int .i64 0] (w.heap.size + 1)
    try simp only [List.cons_append, List.nil_append] at S
    replace n1 := n1.hold S.hold
    have c0_ := S.c2 0 rfl; have c1_ := S.c3 1 rfl
    go_enter Tryz.func90, Tryz.ntmps90
    go_wp2_with fail; clear c0_ c1_
    refine S.cl (wsign_any ⟨_, _, _, by rw [HD.out.2.2.2.2.2], n1⟩ HD.out.2.2.2.2.1 HS.out) ?_; clear S; rintro e w1 rfl S H
    replace n1 := n1.hold H; clear H; have c0_ := S.c2 0 rfl; have c1_ := S.c3 1 rfl; go_wp2_with fail; clear c0_ c1_
    refine S.cl (tail_nat' n1 HD.out.2.2.2.2.1 (HD.out.1.below S.below)) ?_; clear S; rintro e w2 ⟨t, rfl, ht⟩ S H
    replace n1 := n1.hold H; clear H; have c0_ := S.c2 0 rfl; have c1_ := S.c3 1 rfl
    have htl := tail_le ht.out (by have := HZ.out; omega) HD.out.2.1.size
    have h1 := HD.out.2.1.1
    have h2 := HD.out.2.2.1
    have h3 := make_exp HZ.out ht.out HD.out.2.1
    obtain ⟨f, hf⟩ : ∃ f, e + (t : Int) = f := ⟨_, rfl⟩
    have hfb : -65536 ≤ f ∧ f ≤ 65536 := by omega
    have heb : -65536 ≤ e ∧ e ≤ 65536 := by omega
    have hwr : IntKind.i64.wrap (e + (t : Int)) = f := by rw [wrap_int (by omega) (by omega), hf]
    have hf1 : DyF (z / 2 ^ t) f x L H := by
      have := dyf_make HZ.out ht.out HD.out.2.1
      rw [hf, HD.out.2.2.2.1] at this
      exact this
    have HF := Lib.hid hf1
    have HB := Lib.hid (And.intro hfb heb)
    have HT := Lib.hid (show t ≤ 9223372036854775807 by omega)
    obtain ⟨o, ho⟩ : ∃ o, z / 2 ^ t = o := ⟨_, rfl⟩
    rw [ho] at HF
    have HO := Lib.hid ho
    clear htl h1 h2 h3 hf hfb heb hf1 ho ht; go_wp2_with fail; clear c0_ c1_
    refine S.cl (exp_in e _ HB.out.2.1 HB.out.2.2) ?_; clear S; rintro e w3 rfl S H
    replace n1 := n1.hold H; clear H; have c0_ := S.c2 0 rfl; have c1_ := S.c3 1 rfl; go_wp2_with fail; clear c0_ c1_
    refine S.cl (exp_in f _ HB.out.1.1 HB.out.1.2) ?_; clear S; rintro e w4 rfl S H
    replace n1 := n1.hold H; clear H; have c0_ := S.c2 0 rfl; have c1_ := S.c3 1 rfl; clear c0_ c1_; have c0_ := S.c2 0 rfl; have c1_ := S.c3 1 rfl; go_wp2_with fail; clear c0_ c1_
    refine S.cl (wright_any (HD.out.1.below S.below) ⟨_, _, _, by rw [HD.out.2.2.2.2.2], n1⟩ HD.out.2.2.2.2.1 t HT.out o HO.out) ?_; clear S; rintro e w5 ⟨_, rfl, p, l, K, rfl, no⟩ S H
    replace n1 := n1.hold H; clear H; have c0_ := S.c2 0 rfl; have c1_ := S.c3 1 rfl
    have H := S.hnew 25 [.bool (negB o), .slice p l K]
    replace S := S.al 25 [.bool (negB o), .slice p l K] (w5.heap.size)
    replace n1 := n1.hold H; replace no := no.hold H
    clear H; clear c0_ c1_; have c0_ := S.c2 0 rfl; have c1_ := S.c3 1 rfl; have c2_ := S.c2 2 rfl
    obtain ⟨f1_0, f1_1, f1_2⟩ := S.f3 1 rfl
    have HP := S.put3 1 (.bool (negB o)) (.slice p l K) (.int .i64 f) rfl rfl; have H := HP.2; replace S := HP.1; clear HP
    replace n1 := n1.hold32 H; replace no := no.hold32 H
    clear H; go_wp2_with fail; obtain ⟨d1_0, d1_1, d1_2⟩ := S.c3 1 rfl
    exact bodyPost_ret (v := .tuple #[.agg #[.bool (negB o), .slice p l K, .int .i64 f], .int .i64 0]) (by simp [results, Tryz.f90, go_sem, d1_0, d1_1, d1_2]) rfl (⟨⟨_, rfl, negB o, p, l, K, o, f, rfl, rfl, no, HF⟩, S.below⟩)
set_option maxRecDepth 100000 in
set_option maxHeartbeats 4000000 in
theorem dtimes_any {va : Value} {z e : Int} {w : World} {L H : Nat} (hT : Tab w) (ha : IsInt w va z) (hz : ZF z e L H) (hLH : H + L ≤ 16384) (x : Rat) (hx : dq z e = x) :
    Calls Tryz.prog 81 #[va, .int .i64 e, .int .i64 0] w fun ev w' => (∃ u, ev = .returned (.tuple #[u, .int .i64 0]) ∧ IsD w' u x L H) ∧ Below w.heap.size w w' := by
  obtain ⟨p1, l1, K1, rfl, n1⟩ := ha
  obtain ⟨b1, hb1⟩ : ∃ b1, negB z = b1 := ⟨_, rfl⟩
  rw [hb1]
  have HD := Lib.hid (And.intro hT (And.intro hz (And.intro hLH (And.intro hx hb1))))
  clear hT hz hLH hx hb1
  have S := ((St.start w).alloc 25 [.bool b1, .slice p1 l1 K1] (w.heap.size)).alloc 27 [.bool false, .slice none 0 0, .int .i64 0] (w.heap.size + 1)
  try simp only [List.cons_append, List.nil_append] at S
  replace n1 := n1.hold S.hold
  have c0_ := S.c2 0 rfl; have c1_ := S.c3 1 rfl
  go_enter Tryz.func81, Tryz.ntmps81
  go_wp2_with fail; clear c0_ c1_
  refine S.cl (dmake_any (HD.out.1.below S.below) ⟨_, _, _, by rw [HD.out.2.2.2.2], n1⟩ HD.out.2.1 HD.out.2.2.1 x HD.out.2.2.2.1) ?_; clear S; rintro e w1 ⟨_, rfl, b, p, l, K, m, f, rfl, hb, nm, hm⟩ S H
  replace n1 := n1.hold H; clear H; have c0_ := S.c2 0 rfl; have c1_ := S.c3 1 rfl
  obtain ⟨f1_0, f1_1, f1_2⟩ := S.f3 1 rfl
  have HP := S.put3 1 (.bool b) (.slice p l K) (.int .i64 f) rfl rfl; have H := HP.2; replace S := HP.1; clear HP
  replace n1 := n1.hold32 H; replace nm := nm.hold32 H
  clear H; go_wp2_with fail; obtain ⟨d1_0, d1_1, d1_2⟩ := S.c3 1 rfl
  exact bodyPost_ret (v := .tuple #[.agg #[.bool b, .slice p l K, .int .i64 f], .int .i64 0]) (by simp [results, Tryz.f81, go_sem, d1_0, d1_1, d1_2]) rfl (⟨⟨_, rfl, b, p, l, K, m, f, rfl, hb, nm, hm⟩, S.below⟩)
theorem dyc_neg {m e : Int} (h : DyC m e) : DyC (-m) e := by
  rcases h with ⟨h1, h2⟩ | h
  · exact .inl ⟨by omega, h2⟩
  · exact .inr (by omega)
theorem dyc_abs {m e : Int} (h : DyC m e) : DyC ((m.natAbs : Nat) : Int) e := by
  rcases h with ⟨h1, h2⟩ | h
  · exact .inl ⟨by omega, h2⟩
  · exact .inr (by omega)
theorem dyf_neg {m e : Int} {x : Rat} {L H : Nat} (h : DyF m e x L H) : DyF (-m) e (-x) L H :=
  ⟨dyc_neg h.1, h.2.1.neg, by rw [← h.2.2, dq_neg]⟩
theorem dyf_abs {m e : Int} {x : Rat} {L H : Nat} (h : DyF m e x L H) : DyF ((m.natAbs : Nat) : Int) e x.abs L H :=
  ⟨dyc_abs h.1, ⟨h.2.1.1, by rw [Int.natAbs_natCast]; exact h.2.1.2⟩, by rw [← h.2.2, dq_abs]⟩
set_option maxRecDepth 100000 in
set_option maxHeartbeats 2000000 in
theorem dsign_any {va : Value} {x : Rat} {w : World} {L H : Nat} (ha : IsD w va x L H) (hk : H + L ≤ 16384) {s : Int} (hs : x.num.sign = s) :
    Calls Tryz.prog 43 #[va] w fun e w' => e = .returned (.int .i64 s) ∧ Below w.heap.size w w' := by
  obtain ⟨b, p, l, K, m, f, rfl, hb, nm, hm⟩ := ha
  have HD := Lib.hid (And.intro hk (show m.sign = s by rw [← dyc_sign hm.out]; exact hs))
  clear hk hs
  have S := (St.start w).alloc 27 [.bool b, .slice p l K, .int .i64 f] (w.heap.size)
  try simp only [List.nil_append] at S
  replace nm := nm.hold S.hold
  have c0_ := S.c3 0 rfl
  go_enter Tryz.func43, Tryz.ntmps43
  go_wp2_with fail; clear c0_
  refine S.cl (wsign_any ⟨_, _, _, by rw [hb.out], nm⟩ (hm.out.max HD.out.1) HD.out.2) ?_; clear S; rintro e w1 rfl S H
  replace nm := nm.hold H; clear H; have c0_ := S.c3 0 rfl; go_wp2_with fail
  exact bodyPost_ret (v := .int .i64 s) (by simp [results, Tryz.f43, go_sem]) rfl (⟨rfl, S.below⟩)
set_option maxRecDepth 100000 in
set_option maxHeartbeats 4000000 in
theorem dneg_any {va : Value} {x : Rat} {w : World} {L H : Nat} (ha : IsD w va x L H) (hk : H + L ≤ 16384) :
    Calls Tryz.prog 36 #[va] w fun e w' => (∃ u, e = .returned u ∧ IsD w' u (-x) L H) ∧ Below w.heap.size w w' := by
  obtain ⟨b, p, l, K, m, f, rfl, hb, nm, hm⟩ := ha
  have HK := Lib.hid hk
  clear hk
  have S := ((St.start w).alloc 27 [.bool b, .slice p l K, .int .i64 f] (w.heap.size)).alloc 27 [.bool false, .slice none 0 0, .int .i64 0] (w.heap.size + 1)
  try simp only [List.cons_append, List.nil_append] at S
  replace nm := nm.hold S.hold
  have c0_ := S.c3 0 rfl; have c1_ := S.c3 1 rfl
  go_enter Tryz.func36, Tryz.ntmps36
  go_upto_region 1 with fail
  clear c0_ c1_
  generalize ((w.alloc (.cells #[.bool b, .slice p l K, .int .i64 f] 27)).alloc (.cells #[.bool false, .slice none 0 0, .int .i64 0] 27)) = w1 at S nm ⊢
  have HH := (Hold.drew w1).to32
  replace nm := nm.hold32 HH
  replace S := S.drew
  refine wp_region_held_drew (S := fun W => W.cell? ⟨w.heap.size, 0, none⟩ = some (.bool b) ∧ W.cell? ⟨w.heap.size, 1, none⟩ = some (.slice p l K) ∧ W.cell? ⟨w.heap.size, 2, none⟩ = some (.int .i64 f)) (by kernel_rfl) (S.c3 0 rfl) (fun hS => ?_)
  generalize w1.drew = w2 at S nm HH hS ⊢
  refine tk 0 hS ?_
  refine tk 1 hS ?_
  refine tk 3 hS ?_
  refine tk 4 hS ?_
  refine rd 2 fun KK hKK => ?_
  go_simp; clear hS
  refine S.cl (wneg_to ⟨_, _, _, by rw [hb.out], nm⟩ (hm.out.max HK.out) (-m) rfl) ?_; clear S; rintro e w3 ⟨_, rfl, pa, la, Ka, rfl, na⟩ S H
  replace nm := nm.hold H; replace HH := HH.trans H.to32; clear H
  go_wp2_with fail
  refine ho hKK (S.c3 0 rfl) fun hS => ?_
  clear hKK KK
  refine tk 5 hS ?_
  refine rd 6 fun KK hKK => ?_
  obtain ⟨c0, c1, c2⟩ := S.c3 1 rfl; obtain ⟨f0, f1, f2⟩ := S.f3 1 rfl
  go_simp; clear hS c0 f0 c1 f1 c2 f2
  have HP := S.put3 1 (.bool (negB (-m))) (.slice pa la Ka) (.int .i64 f) rfl rfl; have H := HP.2; replace S := HP.1; clear HP
  refine iw3 H nm na HH ?_; clear nm na HH H; intro nm na HH
  refine ho hKK (S.c3 0 rfl) fun hS => ?_
  generalize (((w3.setCell ⟨w.heap.size + 1, 0, none⟩ (.bool (negB (-m)))).setCell ⟨w.heap.size + 1, 1, none⟩ (.slice pa la Ka)).setCell ⟨w.heap.size + 1, 2, none⟩ (.int .i64 f)) = w4 at S nm na HH hS ⊢
  clear hKK KK
  refine wpAnyH_done (by kernel_rfl) ?_ _
  clear hS HH; have c0_ := S.c3 0 rfl; have c1_ := S.c3 1 rfl; go_wp2_with fail; obtain ⟨d1_0, d1_1, d1_2⟩ := S.c3 1 rfl
  exact bodyPost_ret (v := .agg #[.bool (negB (-m)), .slice pa la Ka, .int .i64 f]) (by simp [results, Tryz.f36, go_sem, d1_0, d1_1, d1_2]) rfl (⟨⟨_, rfl, _, pa, la, Ka, -m, f, rfl, rfl, na, dyf_neg hm.out⟩, S.below⟩)
set_option maxRecDepth 100000 in
set_option maxHeartbeats 4000000 in
theorem dabs_any {va : Value} {x : Rat} {w : World} {L H : Nat} (ha : IsD w va x L H) (hk : H + L ≤ 16384) :
    Calls Tryz.prog 44 #[va] w fun e w' => (∃ u, e = .returned u ∧ IsD w' u x.abs L H) ∧ Below w.heap.size w w' := by
  obtain ⟨b, p, l, K, m, f, rfl, hb, nm, hm⟩ := ha
  have HK := Lib.hid hk
  clear hk
  have S := ((St.start w).alloc 27 [.bool b, .slice p l K, .int .i64 f] (w.heap.size)).alloc 27 [.bool false, .slice none 0 0, .int .i64 0] (w.heap.size + 1)
  try simp only [List.cons_append, List.nil_append] at S
  replace nm := nm.hold S.hold
  have c0_ := S.c3 0 rfl; have c1_ := S.c3 1 rfl
  go_enter Tryz.func44, Tryz.ntmps44
  go_upto_region 1 with fail
  clear c0_ c1_
  generalize ((w.alloc (.cells #[.bool b, .slice p l K, .int .i64 f] 27)).alloc (.cells #[.bool false, .slice none 0 0, .int .i64 0] 27)) = w1 at S nm ⊢
  have HH := (Hold.drew w1).to32
  replace nm := nm.hold32 HH
  replace S := S.drew
  refine wp_region_held_drew (S := fun W => W.cell? ⟨w.heap.size, 0, none⟩ = some (.bool b) ∧ W.cell? ⟨w.heap.size, 1, none⟩ = some (.slice p l K) ∧ W.cell? ⟨w.heap.size, 2, none⟩ = some (.int .i64 f)) (by kernel_rfl) (S.c3 0 rfl) (fun hS => ?_)
  generalize w1.drew = w2 at S nm HH hS ⊢
  refine tk 0 hS ?_
  refine tk 1 hS ?_
  refine tk 3 hS ?_
  refine tk 4 hS ?_
  refine rd 2 fun KK hKK => ?_
  go_simp; clear hS
  refine S.cl (wabs_any ⟨_, _, _, by rw [hb.out], nm⟩ (hm.out.max HK.out) ((m.natAbs : Nat) : Int) rfl) ?_; clear S; rintro e w3 ⟨_, rfl, pa, la, Ka, rfl, na⟩ S H
  replace nm := nm.hold H; replace HH := HH.trans H.to32; clear H
  go_wp2_with fail
  refine ho hKK (S.c3 0 rfl) fun hS => ?_
  clear hKK KK
  refine tk 5 hS ?_
  refine rd 6 fun KK hKK => ?_
  obtain ⟨c0, c1, c2⟩ := S.c3 1 rfl; obtain ⟨f0, f1, f2⟩ := S.f3 1 rfl
  go_simp; clear hS c0 f0 c1 f1 c2 f2
  have HP := S.put3 1 (.bool (negB ((m.natAbs : Nat) : Int))) (.slice pa la Ka) (.int .i64 f) rfl rfl; have H := HP.2; replace S := HP.1; clear HP
  refine iw3 H nm na HH ?_; clear nm na HH H; intro nm na HH
  refine ho hKK (S.c3 0 rfl) fun hS => ?_
  generalize (((w3.setCell ⟨w.heap.size + 1, 0, none⟩ (.bool (negB ((m.natAbs : Nat) : Int)))).setCell ⟨w.heap.size + 1, 1, none⟩ (.slice pa la Ka)).setCell ⟨w.heap.size + 1, 2, none⟩ (.int .i64 f)) = w4 at S nm na HH hS ⊢
  clear hKK KK
  refine wpAnyH_done (by kernel_rfl) ?_ _
  clear hS HH; have c0_ := S.c3 0 rfl; have c1_ := S.c3 1 rfl; go_wp2_with fail; obtain ⟨d1_0, d1_1, d1_2⟩ := S.c3 1 rfl
  exact bodyPost_ret (v := .agg #[.bool (negB ((m.natAbs : Nat) : Int)), .slice pa la Ka, .int .i64 f]) (by simp [results, Tryz.f44, go_sem, d1_0, d1_1, d1_2]) rfl (⟨⟨_, rfl, _, pa, la, Ka, ((m.natAbs : Nat) : Int), f, rfl, rfl, na, dyf_abs hm.out⟩, S.below⟩)
set_option maxRecDepth 100000 in
set_option maxHeartbeats 4000000 in
theorem dcopied_any {va : Value} {x : Rat} {w : World} {L H : Nat} (ha : IsD w va x L H) (hk : H + L ≤ 16384) :
    Calls Tryz.prog 134 #[va] w fun e w' => (∃ u, e = .returned u ∧ IsD w' u x L H) ∧ Below w.heap.size w w' := by
  obtain ⟨b, p, l, K, m, f, rfl, hb, nm, hm⟩ := ha
  have HK := Lib.hid hk
  clear hk
  have S := ((St.start w).alloc 27 [.bool b, .slice p l K, .int .i64 f] (w.heap.size)).alloc 27 [.bool false, .slice none 0 0, .int .i64 0] (w.heap.size + 1)
  try simp only [List.cons_append, List.nil_append] at S
  replace nm := nm.hold S.hold
  have c0_ := S.c3 0 rfl; have c1_ := S.c3 1 rfl
  go_enter Tryz.func134, Tryz.ntmps134
  go_upto_region 1 with fail
  clear c0_ c1_
  generalize ((w.alloc (.cells #[.bool b, .slice p l K, .int .i64 f] 27)).alloc (.cells #[.bool false, .slice none 0 0, .int .i64 0] 27)) = w1 at S nm ⊢
  have HH := (Hold.drew w1).to32
  replace nm := nm.hold32 HH
  replace S := S.drew
  refine wp_region_held_drew (S := fun W => W.cell? ⟨w.heap.size, 0, none⟩ = some (.bool b) ∧ W.cell? ⟨w.heap.size, 1, none⟩ = some (.slice p l K) ∧ W.cell? ⟨w.heap.size, 2, none⟩ = some (.int .i64 f)) (by kernel_rfl) (S.c3 0 rfl) (fun hS => ?_)
  generalize w1.drew = w2 at S nm HH hS ⊢
  refine tk 0 hS ?_
  refine tk 1 hS ?_
  refine tk 2 hS ?_
  refine tk 3 hS ?_
  refine tk 4 hS ?_
  refine tk 5 hS ?_
  refine tk 8 hS ?_
  refine tk 9 hS ?_
  refine rd 6 fun KK hKK => ?_
  go_simp; clear hS
  refine S.cl (clone_any nm (hm.out.max HK.out)) ?_; clear S; rintro e w3 ⟨_, rfl, nc⟩ S H
  replace nm := nm.hold H; replace HH := HH.trans H.to32; clear H
  obtain ⟨pc, lc, Kc, rfl⟩ := nc.form
  go_wp2_with fail
  refine ho hKK (S.c3 0 rfl) fun hS => ?_
  clear hKK KK
  refine tk 7 hS ?_
  refine tk 10 hS ?_
  refine rd 11 fun KK hKK => ?_
  obtain ⟨c0, c1, c2⟩ := S.c3 1 rfl; obtain ⟨f0, f1, f2⟩ := S.f3 1 rfl
  go_simp; clear hS c0 f0 c1 f1 c2 f2
  have HP := S.put3 1 (.bool b) (.slice pc lc Kc) (.int .i64 f) rfl rfl; have H := HP.2; replace S := HP.1; clear HP
  refine iw3 H nm nc HH ?_; clear nm nc HH H; intro nm nc HH
  refine ho hKK (S.c3 0 rfl) fun hS => ?_
  generalize (((w3.setCell ⟨w.heap.size + 1, 0, none⟩ (.bool b)).setCell ⟨w.heap.size + 1, 1, none⟩ (.slice pc lc Kc)).setCell ⟨w.heap.size + 1, 2, none⟩ (.int .i64 f)) = w4 at S nm nc HH hS ⊢
  clear hKK KK
  refine wpAnyH_done (by kernel_rfl) ?_ _
  clear hS HH; have c0_ := S.c3 0 rfl; have c1_ := S.c3 1 rfl; go_wp2_with fail; obtain ⟨d1_0, d1_1, d1_2⟩ := S.c3 1 rfl
  exact bodyPost_ret (v := .agg #[.bool b, .slice pc lc Kc, .int .i64 f]) (by simp [results, Tryz.f134, go_sem, d1_0, d1_1, d1_2]) rfl (⟨⟨_, rfl, b, pc, lc, Kc, m, f, rfl, hb, nc, hm⟩, S.below⟩)
set_option maxRecDepth 100000 in
set_option maxHeartbeats 4000000 in
theorem power_any {p : Option Addr} {l K : Nat} {m f : Int} {b : Bool} {w : World} (nm : IsNat w (.slice p l K) m.natAbs) (hm : m.natAbs < maxN) {t : Nat} (ht : nbits m.natAbs = t) (z : Int) (hz : (t : Int) + f = z) (h0 : -1000000 ≤ z) (h1 : z ≤ 1000000) :
    Calls Tryz.prog 83 #[.agg #[.bool b, .slice p l K, .int .i64 f]] w fun e w' => e = .returned (.int .i64 z) ∧ Below w.heap.size w w' := by
  have HD := Lib.hid (And.intro hm ht)
  have hwr : IntKind.i64.wrap ((t : Int) + f) = z := by rw [wrap_int (by omega) (by omega), hz]
  clear hm ht hz h0 h1
  have S := (St.start w).alloc 27 [.bool b, .slice p l K, .int .i64 f] (w.heap.size)
  try simp only [List.nil_append] at S
  replace nm := nm.hold S.hold
  have c0_ := S.c3 0 rfl
  go_enter Tryz.func83, Tryz.ntmps83
  go_upto_region 1 with fail
  clear c0_
  replace nm := nm.hold (Hold.drew _)
  replace S := S.drew
  refine wp_region_held_drew (S := fun W => W.cell? ⟨w.heap.size, 1, none⟩ = some (.slice p l K) ∧ W.cell? ⟨w.heap.size, 2, none⟩ = some (.int .i64 f)) (by kernel_rfl) ⟨(S.c 0 1 rfl rfl), (S.c 0 2 rfl rfl)⟩ (fun hS => ?_)
  refine tk 0 hS ?_
  refine tk 1 hS ?_
  refine tk 2 hS ?_
  refine tk 4 hS ?_
  refine tk 5 hS ?_
  refine rd 3 fun KK hKK => ?_
  go_simp
  refine (S.call (bits_nat nm HD.out.1 HD.out.2)).mono ?_; clear S; rintro e w1 ⟨rfl, S, H⟩; replace nm := nm.hold H; clear H
  go_wp2_with fail
  refine ho hKK ⟨(S.c 0 1 rfl rfl), (S.c 0 2 rfl rfl)⟩ fun hS => ?_
  clear hKK KK
  refine tk 6 hS ?_
  refine rd 7 fun KK hKK => ?_
  go_simp
  refine ho hKK ⟨(S.c 0 1 rfl rfl), (S.c 0 2 rfl rfl)⟩ fun hS => ?_
  clear hKK KK
  refine wpAnyH_done (by kernel_rfl) ?_ _
  go_wp2_with fail
  exact bodyPost_ret (v := .int .i64 z) (by simp [results, Tryz.f83, go_sem]) rfl (⟨rfl, S.below⟩)
theorem cmp_int' (a b c : Int) (h : cmpI a b = c) (w : World) : Calls Tryz.prog 82 #[.int .i64 a, .int .i64 b] w fun e w' => e = .returned (.int .i64 c) ∧ Below w.heap.size w w' :=
  (cmp_int a b w).mono fun _ _ ⟨h1, h2⟩ => ⟨by rw [h1, h], h2 ▸ Below.refl _ w⟩
set_option maxRecDepth 100000 in
set_option maxHeartbeats 4000000 in
theorem dalign_lt {b1 b2 : Bool} {p1 p2 : Option Addr} {l1 l2 K1 K2 : Nat} {m1 m2 e1 e2 : Int} {w : World} (h1 : Hid (negB m1 = b1)) (n1 : IsNat w (.slice p1 l1 K1) m1.natAbs) (h2 : Hid (negB m2 = b2)) (n2 : IsNat w (.slice p2 l2 K2) m2.natAbs) (hm1 : m1.natAbs < maxN) (hm2 : m2.natAbs < maxN)
    (he1 : -1000000 ≤ e1 ∧ e1 ≤ 1000000) (he2 : -1000000 ≤ e2 ∧ e2 ≤ 1000000) (hlt : e2 < e1) (s : Nat) (hs : e1 - e2 = s) (hfit : m1.natAbs * 2 ^ s < maxN) (X Y : Int) (hX : m1 * 2 ^ s = X) (hY : m2 = Y) :
    Calls Tryz.prog 80 #[.agg #[.bool b1, .slice p1 l1 K1, .int .i64 e1], .agg #[.bool b2, .slice p2 l2 K2, .int .i64 e2]] w fun e w' => (∃ u v, e = .returned (.tuple #[u, v, .int .i64 e2, .int .i64 0]) ∧ IsInt w' u X ∧ IsInt w' v Y) ∧ Below w.heap.size w w' := by
  have hmin : min e1 e2 = e2 := by omega
  have hwr : IntKind.i64.wrap (e1 - e2) = (s : Int) := by rw [wrap_int (by omega) (by omega), hs]
  have hw0 : IntKind.i64.wrap (e2 - e2) = 0 := by rw [Int.sub_self]; rfl
  have HD := Lib.hid (And.intro hm1 (And.intro hm2 (And.intro (show s ≤ 9223372036854775807 by omega) (And.intro hfit (And.intro hX hY)))))
  clear hm1 hm2 he1 he2 hs hfit hX hY hlt
  have S := ((((St.start w).alloc 27 [.bool b1, .slice p1 l1 K1, .int .i64 e1] (w.heap.size)).alloc 27 [.bool b2, .slice p2 l2 K2, .int .i64 e2] (w.heap.size + 1)).alloc 25 [.bool false, .slice none 0 0] (w.heap.size + 1 + 1)).alloc 25 [.bool false, .slice none 0 0] (w.heap.size + 1 + 1 + 1)
  try simp only [List.cons_append, List.nil_append] at S
  replace n1 := n1.hold S.hold; replace n2 := n2.hold S.hold
  have c0_ := S.c3 0 rfl; have c1_ := S.c3 1 rfl; have c2_ := S.c2 2 rfl; have c3_ := S.c2 3 rfl
  go_enter Tryz.func80, Tryz.ntmps80
  go_wp2_with fail; clear c0_ c1_ c2_ c3_
  refine S.cl (wleft_any ⟨_, _, _, by rw [h1.out], n1⟩ HD.out.1 s HD.out.2.2.1 HD.out.2.2.2.1 X HD.out.2.2.2.2.1) ?_; clear S; rintro e w1 ⟨_, rfl, pa, la, Ka, rfl, na⟩ S H
  replace n1 := n1.hold H; replace n2 := n2.hold H
  clear H; have c0_ := S.c3 0 rfl; have c1_ := S.c3 1 rfl; have c2_ := S.c2 2 rfl; have c3_ := S.c2 3 rfl
  have H := S.hnew 25 [.bool (negB X), .slice pa la Ka]
  replace S := S.al 25 [.bool (negB X), .slice pa la Ka] (w1.heap.size)
  refine iv3 H n1 n2 na ?_; clear n1 n2 na; intro n1 n2 na
  clear H; clear c0_ c1_ c2_ c3_; have c0_ := S.c3 0 rfl; have c1_ := S.c3 1 rfl; have c2_ := S.c2 2 rfl; have c3_ := S.c2 3 rfl; have c4_ := S.c2 4 rfl; go_wp2_with fail; clear c0_ c1_ c2_ c3_ c4_
  refine S.cl (wleft_any ⟨_, _, _, by rw [h2.out], n2⟩ HD.out.2.1 0 (by decide) (by rw [Nat.pow_zero, Nat.mul_one]; exact HD.out.2.1) Y (by rw [← HD.out.2.2.2.2.2]; simp)) ?_; clear S; rintro e w2 ⟨_, rfl, pb, lb, Kb, rfl, nb⟩ S H
  refine iv3 H n1 n2 na ?_; clear n1 n2 na; intro n1 n2 na
  clear H; have c0_ := S.c3 0 rfl; have c1_ := S.c3 1 rfl; have c2_ := S.c2 2 rfl; have c3_ := S.c2 3 rfl; have c4_ := S.c2 4 rfl
  have H := S.hnew 25 [.bool (negB Y), .slice pb lb Kb]
  replace S := S.al 25 [.bool (negB Y), .slice pb lb Kb] (w2.heap.size)
  refine iv4 H n1 n2 na nb ?_; clear n1 n2 na nb; intro n1 n2 na nb
  clear H; clear c0_ c1_ c2_ c3_ c4_; have c0_ := S.c3 0 rfl; have c1_ := S.c3 1 rfl; have c2_ := S.c2 2 rfl; have c3_ := S.c2 3 rfl; have c4_ := S.c2 4 rfl; have c5_ := S.c2 5 rfl
  go_upto_region 4 with fail
  clear c0_ c1_ c2_ c3_ c4_ c5_
  generalize (w2.alloc (.cells #[.bool (negB Y), .slice pb lb Kb] 25)) = w3 at S n1 n2 na nb ⊢
  have HH := Hold.drew w3
  refine iv4 HH n1 n2 na nb ?_; clear n1 n2 na nb; intro n1 n2 na nb
  replace S := S.drew
  refine wp_region_held_drew (S := fun W => W.cell? ⟨w1.heap.size, 0, none⟩ = some (.bool (negB X)) ∧ W.cell? ⟨w1.heap.size, 1, none⟩ = some (.slice pa la Ka) ∧ W.cell? ⟨w2.heap.size, 0, none⟩ = some (.bool (negB Y)) ∧ W.cell? ⟨w2.heap.size, 1, none⟩ = some (.slice pb lb Kb)) (by kernel_rfl) ⟨(S.c 4 0 rfl rfl), ⟨(S.c 4 1 rfl rfl), ⟨(S.c 5 0 rfl rfl), (S.c 5 1 rfl rfl)⟩⟩⟩ (fun hS => ?_)
  generalize w3.drew = w4 at S n1 n2 na nb HH hS ⊢
  refine tk 0 hS ?_
  refine tk 1 hS ?_
  refine tk 2 hS ?_
  refine tk 3 hS ?_
  refine tk 4 hS ?_
  refine rd 5 fun KK hKK => ?_
  go_simp; clear hS
  have H := S.hnew 36 [.int .i64 0, .int .i64 0]
  replace S := S.al 36 [.int .i64 0, .int .i64 0] (w4.heap.size)
  refine iv5 H n1 n2 na nb HH ?_; clear n1 n2 na nb HH H; intro n1 n2 na nb HH
  refine ho hKK ⟨(S.c 4 0 rfl rfl), ⟨(S.c 4 1 rfl rfl), ⟨(S.c 5 0 rfl rfl), (S.c 5 1 rfl rfl)⟩⟩⟩ fun hS => ?_
  generalize (w4.alloc (.cells #[.int .i64 0, .int .i64 0] 36)) = w5 at S n1 n2 na nb HH hS ⊢
  clear hKK KK
  refine rd 6 fun KK hKK => ?_
  go_simp; clear hS
  refine S.cl (or_two S 6 rfl) ?_; clear S; rintro e w6 rfl S H
  refine iv5 H n1 n2 na nb HH ?_; clear n1 n2 na nb HH H; intro n1 n2 na nb HH
  go_wp2_with fail
  refine ho hKK ⟨(S.c 4 0 rfl rfl), ⟨(S.c 4 1 rfl rfl), ⟨(S.c 5 0 rfl rfl), (S.c 5 1 rfl rfl)⟩⟩⟩ fun hS => ?_
  clear hKK KK
  refine rd 7 fun KK hKK => ?_
  have c0 := S.c 2 0 rfl rfl; have f0 := S.f 2 0 rfl; have c1 := S.c 2 1 rfl rfl; have f1 := S.f 2 1 rfl; go_simp; clear hS c0 f0 c1 f1
  have H := S.hset 2 0 (.bool (negB X)) rfl rfl (by intro q n e; cases e)
  replace S := S.set 2 0 (.bool (negB X)) rfl
  refine iv5 H n1 n2 na nb HH ?_; clear n1 n2 na nb HH H; intro n1 n2 na nb HH
  have H := S.hset 2 1 (.slice pa la Ka) rfl rfl (by intro q n e; cases e)
  replace S := S.set 2 1 (.slice pa la Ka) rfl
  refine iv5 H n1 n2 na nb HH ?_; clear n1 n2 na nb HH H; intro n1 n2 na nb HH
  refine ho hKK ⟨(S.c 4 0 rfl rfl), ⟨(S.c 4 1 rfl rfl), ⟨(S.c 5 0 rfl rfl), (S.c 5 1 rfl rfl)⟩⟩⟩ fun hS => ?_
  generalize ((w6.setCell ⟨w.heap.size + 1 + 1, 0, none⟩ (.bool (negB X))).setCell ⟨w.heap.size + 1 + 1, 1, none⟩ (.slice pa la Ka)) = w7 at S n1 n2 na nb HH hS ⊢
  clear hKK KK
  refine rd 8 fun KK hKK => ?_
  have c0 := S.c 3 0 rfl rfl; have f0 := S.f 3 0 rfl; have c1 := S.c 3 1 rfl rfl; have f1 := S.f 3 1 rfl; go_simp; clear hS c0 f0 c1 f1
  have H := S.hset 3 0 (.bool (negB Y)) rfl rfl (by intro q n e; cases e)
  replace S := S.set 3 0 (.bool (negB Y)) rfl
  refine iv5 H n1 n2 na nb HH ?_; clear n1 n2 na nb HH H; intro n1 n2 na nb HH
  have H := S.hset 3 1 (.slice pb lb Kb) rfl rfl (by intro q n e; cases e)
  replace S := S.set 3 1 (.slice pb lb Kb) rfl
  refine iv5 H n1 n2 na nb HH ?_; clear n1 n2 na nb HH H; intro n1 n2 na nb HH
  refine ho hKK ⟨(S.c 4 0 rfl rfl), ⟨(S.c 4 1 rfl rfl), ⟨(S.c 5 0 rfl rfl), (S.c 5 1 rfl rfl)⟩⟩⟩ fun hS => ?_
  generalize ((w7.setCell ⟨w.heap.size + 1 + 1 + 1, 0, none⟩ (.bool (negB Y))).setCell ⟨w.heap.size + 1 + 1 + 1, 1, none⟩ (.slice pb lb Kb)) = w8 at S n1 n2 na nb HH hS ⊢
  clear hKK KK
  refine rd 9 fun KK hKK => ?_
  go_simp
  refine ho hKK hS fun hS => ?_
  clear hKK KK
  refine rd 10 fun KK hKK => ?_
  go_simp
  refine ho hKK hS fun hS => ?_
  clear hKK KK
  refine wpAnyH_done (by kernel_rfl) ?_ _
  clear hS HH; have c0_ := S.c3 0 rfl; have c1_ := S.c3 1 rfl; have c2_ := S.c2 2 rfl; have c3_ := S.c2 3 rfl; have c4_ := S.c2 4 rfl; have c5_ := S.c2 5 rfl; go_wp2_with fail; have d2_0 := S.c 2 0 rfl rfl; have d2_1 := S.c 2 1 rfl rfl; have d3_0 := S.c 3 0 rfl rfl; have d3_1 := S.c 3 1 rfl rfl
  exact bodyPost_ret (v := .tuple #[.agg #[.bool (negB X), .slice pa la Ka], .agg #[.bool (negB Y), .slice pb lb Kb], .int .i64 e2, .int .i64 0]) (by simp [results, Tryz.f80, go_sem, d2_0, d2_1, d3_0, d3_1]) rfl (⟨⟨_, _, rfl, ⟨pa, la, Ka, rfl, na⟩, ⟨pb, lb, Kb, rfl, nb⟩⟩, S.below⟩)
set_option maxRecDepth 100000 in
set_option maxHeartbeats 4000000 in
theorem dalign_ge {b1 b2 : Bool} {p1 p2 : Option Addr} {l1 l2 K1 K2 : Nat} {m1 m2 e1 e2 : Int} {w : World} (h1 : Hid (negB m1 = b1)) (n1 : IsNat w (.slice p1 l1 K1) m1.natAbs) (h2 : Hid (negB m2 = b2)) (n2 : IsNat w (.slice p2 l2 K2) m2.natAbs) (hm1 : m1.natAbs < maxN) (hm2 : m2.natAbs < maxN)
    (he1 : -1000000 ≤ e1 ∧ e1 ≤ 1000000) (he2 : -1000000 ≤ e2 ∧ e2 ≤ 1000000) (hlt : ¬ e2 < e1) (s : Nat) (hs : e2 - e1 = s) (hfit : m2.natAbs * 2 ^ s < maxN) (X Y : Int) (hX : m1 = X) (hY : m2 * 2 ^ s = Y) :
    Calls Tryz.prog 80 #[.agg #[.bool b1, .slice p1 l1 K1, .int .i64 e1], .agg #[.bool b2, .slice p2 l2 K2, .int .i64 e2]] w fun e w' => (∃ u v, e = .returned (.tuple #[u, v, .int .i64 e1, .int .i64 0]) ∧ IsInt w' u X ∧ IsInt w' v Y) ∧ Below w.heap.size w w' := by
  have hmin : min e1 e2 = e1 := by omega
  have hwr : IntKind.i64.wrap (e2 - e1) = (s : Int) := by rw [wrap_int (by omega) (by omega), hs]
  have hw0 : IntKind.i64.wrap (e1 - e1) = 0 := by rw [Int.sub_self]; rfl
  have HD := Lib.hid (And.intro hm1 (And.intro hm2 (And.intro (show s ≤ 9223372036854775807 by omega) (And.intro hfit (And.intro hX hY)))))
  clear hm1 hm2 he1 he2 hs hfit hX hY hlt
  have S := ((((St.start w).alloc 27 [.bool b1, .slice p1 l1 K1, .int .i64 e1] (w.heap.size)).alloc 27 [.bool b2, .slice p2 l2 K2, .int .i64 e2] (w.heap.size + 1)).alloc 25 [.bool false, .slice none 0 0] (w.heap.size + 1 + 1)).alloc 25 [.bool false, .slice none 0 0] (w.heap.size + 1 + 1 + 1)
  try simp only [List.cons_append, List.nil_append] at S
  replace n1 := n1.hold S.hold; replace n2 := n2.hold S.hold
  have c0_ := S.c3 0 rfl; have c1_ := S.c3 1 rfl; have c2_ := S.c2 2 rfl; have c3_ := S.c2 3 rfl
  go_enter Tryz.func80, Tryz.ntmps80
  go_wp2_with fail; clear c0_ c1_ c2_ c3_
  refine S.cl (wleft_any ⟨_, _, _, by rw [h1.out], n1⟩ HD.out.1 0 (by decide) (by rw [Nat.pow_zero, Nat.mul_one]; exact HD.out.1) X (by rw [← HD.out.2.2.2.2.1]; simp)) ?_; clear S; rintro e w1 ⟨_, rfl, pa, la, Ka, rfl, na⟩ S H
  replace n1 := n1.hold H; replace n2 := n2.hold H
  clear H; have c0_ := S.c3 0 rfl; have c1_ := S.c3 1 rfl; have c2_ := S.c2 2 rfl; have c3_ := S.c2 3 rfl
  have H := S.hnew 25 [.bool (negB X), .slice pa la Ka]
  replace S := S.al 25 [.bool (negB X), .slice pa la Ka] (w1.heap.size)
  refine iv3 H n1 n2 na ?_; clear n1 n2 na; intro n1 n2 na
  clear H; clear c0_ c1_ c2_ c3_; have c0_ := S.c3 0 rfl; have c1_ := S.c3 1 rfl; have c2_ := S.c2 2 rfl; have c3_ := S.c2 3 rfl; have c4_ := S.c2 4 rfl; go_wp2_with fail; clear c0_ c1_ c2_ c3_ c4_
  refine S.cl (wleft_any ⟨_, _, _, by rw [h2.out], n2⟩ HD.out.2.1 s HD.out.2.2.1 HD.out.2.2.2.1 Y HD.out.2.2.2.2.2) ?_; clear S; rintro e w2 ⟨_, rfl, pb, lb, Kb, rfl, nb⟩ S H
  refine iv3 H n1 n2 na ?_; clear n1 n2 na; intro n1 n2 na
  clear H; have c0_ := S.c3 0 rfl; have c1_ := S.c3 1 rfl; have c2_ := S.c2 2 rfl; have c3_ := S.c2 3 rfl; have c4_ := S.c2 4 rfl
  have H := S.hnew 25 [.bool (negB Y), .slice pb lb Kb]
  replace S := S.al 25 [.bool (negB Y), .slice pb lb Kb] (w2.heap.size)
  refine iv4 H n1 n2 na nb ?_; clear n1 n2 na nb; intro n1 n2 na nb
  clear H; clear c0_ c1_ c2_ c3_ c4_; have c0_ := S.c3 0 rfl; have c1_ := S.c3 1 rfl; have c2_ := S.c2 2 rfl; have c3_ := S.c2 3 rfl; have c4_ := S.c2 4 rfl; have c5_ := S.c2 5 rfl
  go_upto_region 4 with fail
  clear c0_ c1_ c2_ c3_ c4_ c5_
  generalize (w2.alloc (.cells #[.bool (negB Y), .slice pb lb Kb] 25)) = w3 at S n1 n2 na nb ⊢
  have HH := Hold.drew w3
  refine iv4 HH n1 n2 na nb ?_; clear n1 n2 na nb; intro n1 n2 na nb
  replace S := S.drew
  refine wp_region_held_drew (S := fun W => W.cell? ⟨w1.heap.size, 0, none⟩ = some (.bool (negB X)) ∧ W.cell? ⟨w1.heap.size, 1, none⟩ = some (.slice pa la Ka) ∧ W.cell? ⟨w2.heap.size, 0, none⟩ = some (.bool (negB Y)) ∧ W.cell? ⟨w2.heap.size, 1, none⟩ = some (.slice pb lb Kb)) (by kernel_rfl) ⟨(S.c 4 0 rfl rfl), ⟨(S.c 4 1 rfl rfl), ⟨(S.c 5 0 rfl rfl), (S.c 5 1 rfl rfl)⟩⟩⟩ (fun hS => ?_)
  generalize w3.drew = w4 at S n1 n2 na nb HH hS ⊢
  refine tk 0 hS ?_
  refine tk 1 hS ?_
  refine tk 2 hS ?_
  refine tk 3 hS ?_
  refine tk 4 hS ?_
  refine rd 5 fun KK hKK => ?_
  go_simp; clear hS
  have H := S.hnew 36 [.int .i64 0, .int .i64 0]
  replace S := S.al 36 [.int .i64 0, .int .i64 0] (w4.heap.size)
  refine iv5 H n1 n2 na nb HH ?_; clear n1 n2 na nb HH H; intro n1 n2 na nb HH
  refine ho hKK ⟨(S.c 4 0 rfl rfl), ⟨(S.c 4 1 rfl rfl), ⟨(S.c 5 0 rfl rfl), (S.c 5 1 rfl rfl)⟩⟩⟩ fun hS => ?_
  generalize (w4.alloc (.cells #[.int .i64 0, .int .i64 0] 36)) = w5 at S n1 n2 na nb HH hS ⊢
  clear hKK KK
  refine rd 6 fun KK hKK => ?_
  go_simp; clear hS
  refine S.cl (or_two S 6 rfl) ?_; clear S; rintro e w6 rfl S H
  refine iv5 H n1 n2 na nb HH ?_; clear n1 n2 na nb HH H; intro n1 n2 na nb HH
  go_wp2_with fail
  refine ho hKK ⟨(S.c 4 0 rfl rfl), ⟨(S.c 4 1 rfl rfl), ⟨(S.c 5 0 rfl rfl), (S.c 5 1 rfl rfl)⟩⟩⟩ fun hS => ?_
  clear hKK KK
  refine rd 7 fun KK hKK => ?_
  have c0 := S.c 2 0 rfl rfl; have f0 := S.f 2 0 rfl; have c1 := S.c 2 1 rfl rfl; have f1 := S.f 2 1 rfl; go_simp; clear hS c0 f0 c1 f1
  have H := S.hset 2 0 (.bool (negB X)) rfl rfl (by intro q n e; cases e)
  replace S := S.set 2 0 (.bool (negB X)) rfl
  refine iv5 H n1 n2 na nb HH ?_; clear n1 n2 na nb HH H; intro n1 n2 na nb HH
  have H := S.hset 2 1 (.slice pa la Ka) rfl rfl (by intro q n e; cases e)
  replace S := S.set 2 1 (.slice pa la Ka) rfl
  refine iv5 H n1 n2 na nb HH ?_; clear n1 n2 na nb HH H; intro n1 n2 na nb HH
  refine ho hKK ⟨(S.c 4 0 rfl rfl), ⟨(S.c 4 1 rfl rfl), ⟨(S.c 5 0 rfl rfl), (S.c 5 1 rfl rfl)⟩⟩⟩ fun hS => ?_
  generalize ((w6.setCell ⟨w.heap.size + 1 + 1, 0, none⟩ (.bool (negB X))).setCell ⟨w.heap.size + 1 + 1, 1, none⟩ (.slice pa la Ka)) = w7 at S n1 n2 na nb HH hS ⊢
  clear hKK KK
  refine rd 8 fun KK hKK => ?_
  have c0 := S.c 3 0 rfl rfl; have f0 := S.f 3 0 rfl; have c1 := S.c 3 1 rfl rfl; have f1 := S.f 3 1 rfl; go_simp; clear hS c0 f0 c1 f1
  have H := S.hset 3 0 (.bool (negB Y)) rfl rfl (by intro q n e; cases e)
  replace S := S.set 3 0 (.bool (negB Y)) rfl
  refine iv5 H n1 n2 na nb HH ?_; clear n1 n2 na nb HH H; intro n1 n2 na nb HH
  have H := S.hset 3 1 (.slice pb lb Kb) rfl rfl (by intro q n e; cases e)
  replace S := S.set 3 1 (.slice pb lb Kb) rfl
  refine iv5 H n1 n2 na nb HH ?_; clear n1 n2 na nb HH H; intro n1 n2 na nb HH
  refine ho hKK ⟨(S.c 4 0 rfl rfl), ⟨(S.c 4 1 rfl rfl), ⟨(S.c 5 0 rfl rfl), (S.c 5 1 rfl rfl)⟩⟩⟩ fun hS => ?_
  generalize ((w7.setCell ⟨w.heap.size + 1 + 1 + 1, 0, none⟩ (.bool (negB Y))).setCell ⟨w.heap.size + 1 + 1 + 1, 1, none⟩ (.slice pb lb Kb)) = w8 at S n1 n2 na nb HH hS ⊢
  clear hKK KK
  refine rd 9 fun KK hKK => ?_
  go_simp
  refine ho hKK hS fun hS => ?_
  clear hKK KK
  refine rd 10 fun KK hKK => ?_
  go_simp
  refine ho hKK hS fun hS => ?_
  clear hKK KK
  refine wpAnyH_done (by kernel_rfl) ?_ _
  clear hS HH; have c0_ := S.c3 0 rfl; have c1_ := S.c3 1 rfl; have c2_ := S.c2 2 rfl; have c3_ := S.c2 3 rfl; have c4_ := S.c2 4 rfl; have c5_ := S.c2 5 rfl; go_wp2_with fail; have d2_0 := S.c 2 0 rfl rfl; have d2_1 := S.c 2 1 rfl rfl; have d3_0 := S.c 3 0 rfl rfl; have d3_1 := S.c 3 1 rfl rfl
  exact bodyPost_ret (v := .tuple #[.agg #[.bool (negB X), .slice pa la Ka], .agg #[.bool (negB Y), .slice pb lb Kb], .int .i64 e1, .int .i64 0]) (by simp [results, Tryz.f80, go_sem, d2_0, d2_1, d3_0, d3_1]) rfl (⟨⟨_, _, rfl, ⟨pa, la, Ka, rfl, na⟩, ⟨pb, lb, Kb, rfl, nb⟩⟩, S.below⟩)
theorem nbits_pb {n k : Nat} (h0 : n ≠ 0) (h : n < PB k) : nbits n ≤ k := by
  obtain ⟨a1, a2, a3⟩ := nbits_spec h0
  rw [PB_is] at h
  have := (Nat.pow_lt_pow_iff_right (by decide : 1 < 2)).1 (Nat.lt_of_le_of_lt a2 h)
  omega
theorem dalign_any {b1 b2 : Bool} {p1 p2 : Option Addr} {l1 l2 K1 K2 : Nat} {m1 m2 e1 e2 : Int} (h1 : Hid (negB m1 = b1)) (h2 : Hid (negB m2 = b2)) {x y : Rat} {L H : Nat} (d1 : DyF m1 e1 x L H) (d2 : DyF m2 e2 y L H) (hLH : H + L ≤ 16384) :
    ∃ X Y f : Int, (ZF X f L H ∧ ZF Y f L H) ∧ x = dq X f ∧ y = dq Y f ∧
    ∀ w', IsNat w' (.slice p1 l1 K1) m1.natAbs → IsNat w' (.slice p2 l2 K2) m2.natAbs → Calls Tryz.prog 80 #[.agg #[.bool b1, .slice p1 l1 K1, .int .i64 e1], .agg #[.bool b2, .slice p2 l2 K2, .int .i64 e2]] w' fun e w'' => (∃ u v, e = .returned (.tuple #[u, v, .int .i64 f, .int .i64 0]) ∧ IsInt w'' u X ∧ IsInt w'' v Y) ∧ Below w'.heap.size w' w'' := by
  have g1 := d1.exp
  have g2 := d2.exp
  by_cases hlt : e2 < e1
  · obtain ⟨s, hs⟩ : ∃ s : Nat, e1 - e2 = s := ⟨(e1 - e2).toNat, by omega⟩
    have hp : (2 : Int) ^ s = ((2 ^ s : Nat) : Int) := by simp
    have hb : ZF (m1 * 2 ^ s) e2 L H := ⟨g2.1, by
      rw [hp, Int.natAbs_mul, Int.natAbs_natCast, Nat.mul_assoc, ← Nat.pow_add, show s + (e2 + L).toNat = (e1 + L).toNat by omega]
      exact d1.2.1.2⟩
    have hf := hb.max hLH
    rw [hp, Int.natAbs_mul, Int.natAbs_natCast] at hf
    refine ⟨m1 * 2 ^ s, m2, e2, ⟨hb, d2.2.1⟩, ?_, d2.2.2.symm, fun w' a b => dalign_lt h1 a h2 b (d1.max hLH) (d2.max hLH) (by omega) (by omega) hlt s hs hf _ _ rfl rfl⟩
    rw [hp, dq_shift, ← d1.2.2]
    congr 1; omega
  · obtain ⟨s, hs⟩ : ∃ s : Nat, e2 - e1 = s := ⟨(e2 - e1).toNat, by omega⟩
    have hp : (2 : Int) ^ s = ((2 ^ s : Nat) : Int) := by simp
    have hb : ZF (m2 * 2 ^ s) e1 L H := ⟨g1.1, by
      rw [hp, Int.natAbs_mul, Int.natAbs_natCast, Nat.mul_assoc, ← Nat.pow_add, show s + (e1 + L).toNat = (e2 + L).toNat by omega]
      exact d2.2.1.2⟩
    have hf := hb.max hLH
    rw [hp, Int.natAbs_mul, Int.natAbs_natCast] at hf
    refine ⟨m1, m2 * 2 ^ s, e1, ⟨d1.2.1, hb⟩, d1.2.2.symm, ?_, fun w' a b => dalign_ge h1 a h2 b (d1.max hLH) (d2.max hLH) (by omega) (by omega) hlt s hs hf _ _ rfl rfl⟩
    rw [hp, dq_shift, ← d2.2.2]
    congr 1; omega
set_option maxRecDepth 100000 in
set_option maxHeartbeats 8000000 in
theorem dcompare_any {va vb : Value} {x y : Rat} {w : World} {L H : Nat} (ha : IsD w va x L H) (hb : IsD w vb y L H) (hk : H + L ≤ 16384) (c : Int) (hc : cmpR x y = c) :
    Calls Tryz.prog 28 #[va, vb] w fun e w' => e = .returned (.int .i64 c) ∧ Below w.heap.size w w' := by
  obtain ⟨b1, p1, l1, K1, m1, e1, rfl, h1, n1, d1⟩ := ha
  obtain ⟨b2, p2, l2, K2, m2, e2, rfl, h2, n2, d2⟩ := hb
  obtain ⟨s, hs⟩ : ∃ s, x.num.sign = s := ⟨_, rfl⟩
  obtain ⟨t, ht⟩ : ∃ t, y.num.sign = t := ⟨_, rfl⟩
  have HK := Lib.hid hk
  have HS := Lib.hid (And.intro hs ht)
  by_cases hst : s = t
  · subst hst
    by_cases hs0 : s = 0
    · subst hs0
      have hc0 : cmpI 0 0 = c := by
        rw [← hc, Rat.num_eq_zero.1 (Int.sign_eq_zero_iff_zero.1 hs), Rat.num_eq_zero.1 (Int.sign_eq_zero_iff_zero.1 ht), cmpR_eq]; rfl
      have HC := Lib.hid hc0
      clear hc hs ht hc0 hk
      have S := ((St.start w).alloc 27 [.bool b1, .slice p1 l1 K1, .int .i64 e1] (w.heap.size)).alloc 27 [.bool b2, .slice p2 l2 K2, .int .i64 e2] (w.heap.size + 1)
      try simp only [List.cons_append, List.nil_append] at S
      replace n1 := n1.hold S.hold; replace n2 := n2.hold S.hold
      have c0_ := S.c3 0 rfl; have c1_ := S.c3 1 rfl
      go_enter Tryz.func28, Tryz.ntmps28
      go_upto_region 1 with fail
      clear c0_ c1_
      replace n1 := n1.hold (Hold.drew _); replace n2 := n2.hold (Hold.drew _)
      replace S := S.drew
      refine wp_region_held_drew (S := fun W => W.cell? ⟨w.heap.size, 0, none⟩ = some (.bool b1) ∧ W.cell? ⟨w.heap.size, 1, none⟩ = some (.slice p1 l1 K1) ∧ W.cell? ⟨w.heap.size, 2, none⟩ = some (.int .i64 e1) ∧ W.cell? ⟨w.heap.size + 1, 0, none⟩ = some (.bool b2) ∧ W.cell? ⟨w.heap.size + 1, 1, none⟩ = some (.slice p2 l2 K2) ∧ W.cell? ⟨w.heap.size + 1, 2, none⟩ = some (.int .i64 e2)) (by kernel_rfl) (con3 (S.c3 0 rfl) (S.c3 1 rfl)) (fun hS => ?_)
      refine tk 0 hS ?_
      refine tk 2 hS ?_
      refine rd 1 fun KK hKK => ?_
      go_simp
      refine (S.call (dsign_any ⟨b1, p1, l1, K1, m1, e1, rfl, h1, n1, d1⟩ HK.out HS.out.1)).mono ?_; clear S; rintro e w1 ⟨rfl, S, H⟩; replace n1 := n1.hold H; replace n2 := n2.hold H; clear H
      go_wp2_with fail
      refine ho hKK (con3 (S.c3 0 rfl) (S.c3 1 rfl)) fun hS => ?_
      clear hKK KK
      refine rd 3 fun KK hKK => ?_
      go_simp
      refine (S.call (dsign_any ⟨b2, p2, l2, K2, m2, e2, rfl, h2, n2, d2⟩ HK.out HS.out.2)).mono ?_; clear S; rintro e w2 ⟨rfl, S, H⟩; replace n1 := n1.hold H; replace n2 := n2.hold H; clear H
      go_wp2_with fail
      refine ho hKK (con3 (S.c3 0 rfl) (S.c3 1 rfl)) fun hS => ?_
      clear hKK KK
      refine rd 4 fun KK hKK => ?_
      go_simp
      refine ho hKK (con3 (S.c3 0 rfl) (S.c3 1 rfl)) fun hS => ?_
      clear hKK KK
      refine rd 5 fun KK hKK => ?_
      go_simp
      refine ho hKK (con3 (S.c3 0 rfl) (S.c3 1 rfl)) fun hS => ?_
      clear hKK KK
      refine wpAnyH_done (by kernel_rfl) ?_ _
      go_wp2_with fail
      refine S.cl (cmp_int' 0 0 c HC.out _) ?_; clear S; rintro e w3 rfl S H
      replace n1 := n1.hold H; replace n2 := n2.hold H
      clear H; have c0_ := S.c3 0 rfl; have c1_ := S.c3 1 rfl; go_wp2_with fail
      exact bodyPost_ret (v := .int .i64 c) (by simp [results, Tryz.f28, go_sem]) rfl (⟨rfl, S.below⟩)
    · have hm1 : m1.sign = s := by rw [← dyc_sign d1.out]; exact hs
      have hm2 : m2.sign = s := by rw [← dyc_sign d2.out]; exact ht
      have h01 : m1 ≠ 0 := fun e => hs0 (by rw [← hm1, e]; rfl)
      have h02 : m2 ≠ 0 := fun e => hs0 (by rw [← hm2, e]; rfl)
      have hs1 : (s == 0) = false := by simpa using hs0
      have hss : (s != s) = false := by simp
      have g1 := d1.out.exp
      have g2 := d2.out.exp
      have hz1 := nbits_pb (n := m1.natAbs) (by omega) d1.out.2.1.size
      have hz2 := nbits_pb (n := m2.natAbs) (by omega) d2.out.2.1.size
      obtain ⟨t1, ht1⟩ : ∃ t, nbits m1.natAbs = t := ⟨_, rfl⟩
      obtain ⟨t2, ht2⟩ : ∃ t, nbits m2.natAbs = t := ⟨_, rfl⟩
      rw [ht1] at hz1
      rw [ht2] at hz2
      obtain ⟨q1, hq1⟩ : ∃ q, (t1 : Int) + e1 = q := ⟨_, rfl⟩
      obtain ⟨q2, hq2⟩ : ∃ q, (t2 : Int) + e2 = q := ⟨_, rfl⟩
      have HQ := Lib.hid (And.intro (And.intro ht1 hq1) (And.intro (And.intro ht2 hq2) (And.intro (show -1000000 ≤ q1 ∧ q1 ≤ 1000000 by omega) (show -1000000 ≤ q2 ∧ q2 ≤ 1000000 by omega))))
      by_cases hq : q1 = q2
      · obtain ⟨X, Y, f, hb, hX, hY, CA⟩ := dalign_any (p1 := p1) (p2 := p2) (l1 := l1) (l2 := l2) (K1 := K1) (K2 := K2) h1 h2 d1.out d2.out hk
        have hc2 : cmpI X Y = c := by rw [← hc, hX, hY, cmpR_dq]
        have hqq : (q1 != q2) = false := by simpa using hq
        have HC := Lib.hid (And.intro hc2 (And.intro (hb.1.max hk) (hb.2.max hk)))
        have HA := Lib.hid CA
        clear hc hs ht hk hm1 hm2 h01 h02 g1 g2 hz1 hz2 ht1 ht2 hq1 hq2 hb hX hY CA hc2 hs0 hq
        have S := ((St.start w).alloc 27 [.bool b1, .slice p1 l1 K1, .int .i64 e1] (w.heap.size)).alloc 27 [.bool b2, .slice p2 l2 K2, .int .i64 e2] (w.heap.size + 1)
        try simp only [List.cons_append, List.nil_append] at S
        replace n1 := n1.hold S.hold; replace n2 := n2.hold S.hold
        have c0_ := S.c3 0 rfl; have c1_ := S.c3 1 rfl
        go_enter Tryz.func28, Tryz.ntmps28
        go_upto_region 1 with fail
        clear c0_ c1_
        replace n1 := n1.hold (Hold.drew _); replace n2 := n2.hold (Hold.drew _)
        replace S := S.drew
        refine wp_region_held_drew (S := fun W => W.cell? ⟨w.heap.size, 0, none⟩ = some (.bool b1) ∧ W.cell? ⟨w.heap.size, 1, none⟩ = some (.slice p1 l1 K1) ∧ W.cell? ⟨w.heap.size, 2, none⟩ = some (.int .i64 e1) ∧ W.cell? ⟨w.heap.size + 1, 0, none⟩ = some (.bool b2) ∧ W.cell? ⟨w.heap.size + 1, 1, none⟩ = some (.slice p2 l2 K2) ∧ W.cell? ⟨w.heap.size + 1, 2, none⟩ = some (.int .i64 e2)) (by kernel_rfl) (con3 (S.c3 0 rfl) (S.c3 1 rfl)) (fun hS => ?_)
        refine tk 0 hS ?_
        refine tk 2 hS ?_
        refine rd 1 fun KK hKK => ?_
        go_simp
        refine (S.call (dsign_any ⟨b1, p1, l1, K1, m1, e1, rfl, h1, n1, d1⟩ HK.out HS.out.1)).mono ?_; clear S; rintro e w1 ⟨rfl, S, H⟩; replace n1 := n1.hold H; replace n2 := n2.hold H; clear H
        go_wp2_with fail
        refine ho hKK (con3 (S.c3 0 rfl) (S.c3 1 rfl)) fun hS => ?_
        clear hKK KK
        refine rd 3 fun KK hKK => ?_
        go_simp
        refine (S.call (dsign_any ⟨b2, p2, l2, K2, m2, e2, rfl, h2, n2, d2⟩ HK.out HS.out.2)).mono ?_; clear S; rintro e w2 ⟨rfl, S, H⟩; replace n1 := n1.hold H; replace n2 := n2.hold H; clear H
        go_wp2_with fail
        refine ho hKK (con3 (S.c3 0 rfl) (S.c3 1 rfl)) fun hS => ?_
        clear hKK KK
        refine rd 4 fun KK hKK => ?_
        go_simp
        refine ho hKK (con3 (S.c3 0 rfl) (S.c3 1 rfl)) fun hS => ?_
        clear hKK KK
        refine rd 5 fun KK hKK => ?_
        go_simp
        refine ho hKK (con3 (S.c3 0 rfl) (S.c3 1 rfl)) fun hS => ?_
        clear hKK KK
        refine wpAnyH_done (by kernel_rfl) ?_ _
        go_upto_region 4 with fail
        replace n1 := n1.hold (Hold.drew _); replace n2 := n2.hold (Hold.drew _)
        replace S := S.drew
        refine wp_region_held_drew (S := fun W => W.cell? ⟨w.heap.size, 0, none⟩ = some (.bool b1) ∧ W.cell? ⟨w.heap.size, 1, none⟩ = some (.slice p1 l1 K1) ∧ W.cell? ⟨w.heap.size, 2, none⟩ = some (.int .i64 e1) ∧ W.cell? ⟨w.heap.size + 1, 0, none⟩ = some (.bool b2) ∧ W.cell? ⟨w.heap.size + 1, 1, none⟩ = some (.slice p2 l2 K2) ∧ W.cell? ⟨w.heap.size + 1, 2, none⟩ = some (.int .i64 e2)) (by kernel_rfl) (con3 (S.c3 0 rfl) (S.c3 1 rfl)) (fun hS => ?_)
        refine tk 0 hS ?_
        refine tk 2 hS ?_
        refine rd 1 fun KK hKK => ?_
        go_simp
        refine (S.call (power_any n1 (d1.out.max HK.out) HQ.out.1.1 q1 HQ.out.1.2 HQ.out.2.2.1.1 HQ.out.2.2.1.2)).mono ?_; clear S; rintro e w3 ⟨rfl, S, H⟩; replace n1 := n1.hold H; replace n2 := n2.hold H; clear H
        go_wp2_with fail
        refine ho hKK (con3 (S.c3 0 rfl) (S.c3 1 rfl)) fun hS => ?_
        clear hKK KK
        refine rd 3 fun KK hKK => ?_
        go_simp
        refine (S.call (power_any n2 (d2.out.max HK.out) HQ.out.2.1.1 q2 HQ.out.2.1.2 HQ.out.2.2.2.1 HQ.out.2.2.2.2)).mono ?_; clear S; rintro e w4 ⟨rfl, S, H⟩; replace n1 := n1.hold H; replace n2 := n2.hold H; clear H
        go_wp2_with fail
        refine ho hKK (con3 (S.c3 0 rfl) (S.c3 1 rfl)) fun hS => ?_
        clear hKK KK
        refine rd 4 fun KK hKK => ?_
        go_simp
        refine ho hKK (con3 (S.c3 0 rfl) (S.c3 1 rfl)) fun hS => ?_
        clear hKK KK
        refine rd 5 fun KK hKK => ?_
        go_simp
        refine ho hKK (con3 (S.c3 0 rfl) (S.c3 1 rfl)) fun hS => ?_
        clear hKK KK
        refine wpAnyH_done (by kernel_rfl) ?_ _
        have c0_ := S.c3 0 rfl; have c1_ := S.c3 1 rfl; go_wp2_with fail; clear c0_ c1_
        refine S.cl (HA.out _ n1 n2) ?_; clear S; rintro e w5 ⟨_, _, rfl, ⟨pa, la, Ka, rfl, na⟩, ⟨pb, lb, Kb, rfl, nb⟩⟩ S H
        replace n1 := n1.hold H; replace n2 := n2.hold H
        clear H; have c0_ := S.c3 0 rfl; have c1_ := S.c3 1 rfl
        have H := S.hnew 25 [.bool (negB X), .slice pa la Ka]
        replace S := S.al 25 [.bool (negB X), .slice pa la Ka] (w5.heap.size)
        refine iv4 H n1 n2 na nb ?_; clear n1 n2 na nb; intro n1 n2 na nb
        clear H
        have H := S.hnew 25 [.bool (negB Y), .slice pb lb Kb]
        replace S := S.al 25 [.bool (negB Y), .slice pb lb Kb] (w5.heap.size + 1)
        refine iv4 H n1 n2 na nb ?_; clear n1 n2 na nb; intro n1 n2 na nb
        clear H; clear c0_ c1_; have c0_ := S.c3 0 rfl; have c1_ := S.c3 1 rfl; have c2_ := S.c2 2 rfl; have c3_ := S.c2 3 rfl; go_wp2_with fail; clear c0_ c1_ c2_ c3_
        refine S.cl (wcompare_to ⟨_, _, _, rfl, na⟩ ⟨_, _, _, rfl, nb⟩ HC.out.2.1 HC.out.2.2 c HC.out.1) ?_; clear S; rintro e w6 rfl S H
        refine iv4 H n1 n2 na nb ?_; clear n1 n2 na nb; intro n1 n2 na nb
        clear H; have c0_ := S.c3 0 rfl; have c1_ := S.c3 1 rfl; have c2_ := S.c2 2 rfl; have c3_ := S.c2 3 rfl; go_wp2_with fail
        exact bodyPost_ret (v := .int .i64 c) (by simp [results, Tryz.f28, go_sem]) rfl (⟨rfl, S.below⟩)
      · have hc2 : s * cmpI q1 q2 = c := by
          have := cmp_pow hm1 hm2 hs0 (e1 := e1) (e2 := e2) (by rw [ht1, ht2, hq1, hq2]; exact hq)
          rw [ht1, ht2, hq1, hq2] at this
          rw [← this, ← hc, ← d1.out.2.2, ← d2.out.2.2]
        obtain ⟨r, hr⟩ : ∃ r, cmpI q1 q2 = r := ⟨_, rfl⟩
        have hrb : -1 ≤ s * r ∧ s * r ≤ 1 := by
          rw [← hr, hc2, ← hc]
          unfold cmpR cmpI
          split
          · omega
          · split <;> omega
        have hwr : IntKind.i64.wrap (s * r) = c := by rw [wrap_int (by omega) (by omega), ← hr, hc2]
        have hqq : (q1 != q2) = true := by simpa using hq
        have HC := Lib.hid hr
        clear hc hs ht hk hm1 hm2 h01 h02 g1 g2 hz1 hz2 ht1 ht2 hq1 hq2 hc2 hr hrb hs0 hq
        have S := ((St.start w).alloc 27 [.bool b1, .slice p1 l1 K1, .int .i64 e1] (w.heap.size)).alloc 27 [.bool b2, .slice p2 l2 K2, .int .i64 e2] (w.heap.size + 1)
        try simp only [List.cons_append, List.nil_append] at S
        replace n1 := n1.hold S.hold; replace n2 := n2.hold S.hold
        have c0_ := S.c3 0 rfl; have c1_ := S.c3 1 rfl
        go_enter Tryz.func28, Tryz.ntmps28
        go_upto_region 1 with fail
        clear c0_ c1_
        replace n1 := n1.hold (Hold.drew _); replace n2 := n2.hold (Hold.drew _)
        replace S := S.drew
        refine wp_region_held_drew (S := fun W => W.cell? ⟨w.heap.size, 0, none⟩ = some (.bool b1) ∧ W.cell? ⟨w.heap.size, 1, none⟩ = some (.slice p1 l1 K1) ∧ W.cell? ⟨w.heap.size, 2, none⟩ = some (.int .i64 e1) ∧ W.cell? ⟨w.heap.size + 1, 0, none⟩ = some (.bool b2) ∧ W.cell? ⟨w.heap.size + 1, 1, none⟩ = some (.slice p2 l2 K2) ∧ W.cell? ⟨w.heap.size + 1, 2, none⟩ = some (.int .i64 e2)) (by kernel_rfl) (con3 (S.c3 0 rfl) (S.c3 1 rfl)) (fun hS => ?_)
        refine tk 0 hS ?_
        refine tk 2 hS ?_
        refine rd 1 fun KK hKK => ?_
        go_simp
        refine (S.call (dsign_any ⟨b1, p1, l1, K1, m1, e1, rfl, h1, n1, d1⟩ HK.out HS.out.1)).mono ?_; clear S; rintro e w1 ⟨rfl, S, H⟩; replace n1 := n1.hold H; replace n2 := n2.hold H; clear H
        go_wp2_with fail
        refine ho hKK (con3 (S.c3 0 rfl) (S.c3 1 rfl)) fun hS => ?_
        clear hKK KK
        refine rd 3 fun KK hKK => ?_
        go_simp
        refine (S.call (dsign_any ⟨b2, p2, l2, K2, m2, e2, rfl, h2, n2, d2⟩ HK.out HS.out.2)).mono ?_; clear S; rintro e w2 ⟨rfl, S, H⟩; replace n1 := n1.hold H; replace n2 := n2.hold H; clear H
        go_wp2_with fail
        refine ho hKK (con3 (S.c3 0 rfl) (S.c3 1 rfl)) fun hS => ?_
        clear hKK KK
        refine rd 4 fun KK hKK => ?_
        go_simp
        refine ho hKK (con3 (S.c3 0 rfl) (S.c3 1 rfl)) fun hS => ?_
        clear hKK KK
        refine rd 5 fun KK hKK => ?_
        go_simp
        refine ho hKK (con3 (S.c3 0 rfl) (S.c3 1 rfl)) fun hS => ?_
        clear hKK KK
        refine wpAnyH_done (by kernel_rfl) ?_ _
        go_upto_region 4 with fail
        replace n1 := n1.hold (Hold.drew _); replace n2 := n2.hold (Hold.drew _)
        replace S := S.drew
        refine wp_region_held_drew (S := fun W => W.cell? ⟨w.heap.size, 0, none⟩ = some (.bool b1) ∧ W.cell? ⟨w.heap.size, 1, none⟩ = some (.slice p1 l1 K1) ∧ W.cell? ⟨w.heap.size, 2, none⟩ = some (.int .i64 e1) ∧ W.cell? ⟨w.heap.size + 1, 0, none⟩ = some (.bool b2) ∧ W.cell? ⟨w.heap.size + 1, 1, none⟩ = some (.slice p2 l2 K2) ∧ W.cell? ⟨w.heap.size + 1, 2, none⟩ = some (.int .i64 e2)) (by kernel_rfl) (con3 (S.c3 0 rfl) (S.c3 1 rfl)) (fun hS => ?_)
        refine tk 0 hS ?_
        refine tk 2 hS ?_
        refine rd 1 fun KK hKK => ?_
        go_simp
        refine (S.call (power_any n1 (d1.out.max HK.out) HQ.out.1.1 q1 HQ.out.1.2 HQ.out.2.2.1.1 HQ.out.2.2.1.2)).mono ?_; clear S; rintro e w3 ⟨rfl, S, H⟩; replace n1 := n1.hold H; replace n2 := n2.hold H; clear H
        go_wp2_with fail
        refine ho hKK (con3 (S.c3 0 rfl) (S.c3 1 rfl)) fun hS => ?_
        clear hKK KK
        refine rd 3 fun KK hKK => ?_
        go_simp
        refine (S.call (power_any n2 (d2.out.max HK.out) HQ.out.2.1.1 q2 HQ.out.2.1.2 HQ.out.2.2.2.1 HQ.out.2.2.2.2)).mono ?_; clear S; rintro e w4 ⟨rfl, S, H⟩; replace n1 := n1.hold H; replace n2 := n2.hold H; clear H
        go_wp2_with fail
        refine ho hKK (con3 (S.c3 0 rfl) (S.c3 1 rfl)) fun hS => ?_
        clear hKK KK
        refine rd 4 fun KK hKK => ?_
        go_simp
        refine ho hKK (con3 (S.c3 0 rfl) (S.c3 1 rfl)) fun hS => ?_
        clear hKK KK
        refine rd 5 fun KK hKK => ?_
        go_simp
        refine ho hKK (con3 (S.c3 0 rfl) (S.c3 1 rfl)) fun hS => ?_
        clear hKK KK
        refine wpAnyH_done (by kernel_rfl) ?_ _
        go_wp2_with fail
        refine S.cl (cmp_int' q1 q2 r HC.out _) ?_; clear S; rintro e w5 rfl S H
        replace n1 := n1.hold H; replace n2 := n2.hold H
        clear H; have c0_ := S.c3 0 rfl; have c1_ := S.c3 1 rfl; go_wp2_with fail
        exact bodyPost_ret (v := .int .i64 c) (by simp [results, Tryz.f28, go_sem]) rfl (⟨rfl, S.below⟩)
  · have hc2 : cmpI s t = c := by rw [← hc]; exact (cmpR_sgn hs ht hst).symm
    have hss : (s != t) = true := by simpa using hst
    have HC := Lib.hid hc2
    clear hc hs ht hc2 hk hst
    have S := ((St.start w).alloc 27 [.bool b1, .slice p1 l1 K1, .int .i64 e1] (w.heap.size)).alloc 27 [.bool b2, .slice p2 l2 K2, .int .i64 e2] (w.heap.size + 1)
    try simp only [List.cons_append, List.nil_append] at S
    replace n1 := n1.hold S.hold; replace n2 := n2.hold S.hold
    have c0_ := S.c3 0 rfl; have c1_ := S.c3 1 rfl
    go_enter Tryz.func28, Tryz.ntmps28
    go_upto_region 1 with fail
    clear c0_ c1_
    replace n1 := n1.hold (Hold.drew _); replace n2 := n2.hold (Hold.drew _)
    replace S := S.drew
    refine wp_region_held_drew (S := fun W => W.cell? ⟨w.heap.size, 0, none⟩ = some (.bool b1) ∧ W.cell? ⟨w.heap.size, 1, none⟩ = some (.slice p1 l1 K1) ∧ W.cell? ⟨w.heap.size, 2, none⟩ = some (.int .i64 e1) ∧ W.cell? ⟨w.heap.size + 1, 0, none⟩ = some (.bool b2) ∧ W.cell? ⟨w.heap.size + 1, 1, none⟩ = some (.slice p2 l2 K2) ∧ W.cell? ⟨w.heap.size + 1, 2, none⟩ = some (.int .i64 e2)) (by kernel_rfl) (con3 (S.c3 0 rfl) (S.c3 1 rfl)) (fun hS => ?_)
    refine tk 0 hS ?_
    refine tk 2 hS ?_
    refine rd 1 fun KK hKK => ?_
    go_simp
    refine (S.call (dsign_any ⟨b1, p1, l1, K1, m1, e1, rfl, h1, n1, d1⟩ HK.out HS.out.1)).mono ?_; clear S; rintro e w1 ⟨rfl, S, H⟩; replace n1 := n1.hold H; replace n2 := n2.hold H; clear H
    go_wp2_with fail
    refine ho hKK (con3 (S.c3 0 rfl) (S.c3 1 rfl)) fun hS => ?_
    clear hKK KK
    refine rd 3 fun KK hKK => ?_
    go_simp
    refine (S.call (dsign_any ⟨b2, p2, l2, K2, m2, e2, rfl, h2, n2, d2⟩ HK.out HS.out.2)).mono ?_; clear S; rintro e w2 ⟨rfl, S, H⟩; replace n1 := n1.hold H; replace n2 := n2.hold H; clear H
    go_wp2_with fail
    refine ho hKK (con3 (S.c3 0 rfl) (S.c3 1 rfl)) fun hS => ?_
    clear hKK KK
    refine rd 4 fun KK hKK => ?_
    go_simp
    refine ho hKK (con3 (S.c3 0 rfl) (S.c3 1 rfl)) fun hS => ?_
    clear hKK KK
    refine rd 5 fun KK hKK => ?_
    go_simp
    refine ho hKK (con3 (S.c3 0 rfl) (S.c3 1 rfl)) fun hS => ?_
    clear hKK KK
    refine wpAnyH_done (by kernel_rfl) ?_ _
    go_wp2_with fail
    refine S.cl (cmp_int' s t c HC.out _) ?_; clear S; rintro e w3 rfl S H
    replace n1 := n1.hold H; replace n2 := n2.hold H
    clear H; have c0_ := S.c3 0 rfl; have c1_ := S.c3 1 rfl; go_wp2_with fail
    exact bodyPost_ret (v := .int .i64 c) (by simp [results, Tryz.f28, go_sem]) rfl (⟨rfl, S.below⟩)
set_option maxRecDepth 100000 in
set_option maxHeartbeats 2000000 in
theorem dless_any {va vb : Value} {x y : Rat} {w : World} {L H : Nat} (ha : IsD w va x L H) (hb : IsD w vb y L H) (hk : H + L ≤ 16384) (r : Bool) (hr : decide (x < y) = r) :
    Calls Tryz.prog 37 #[va, vb] w fun e w' => e = .returned (.bool r) ∧ Below w.heap.size w w' := by
  obtain ⟨c, hc⟩ : ∃ c, cmpR x y = c := ⟨_, rfl⟩
  have hcr : decide (c < 0) = r := by
    rw [← hr, ← hc]
    rcases rat_three x y with h | h | h
    · rw [cmpR_lt h, show decide ((-1 : Int) < 0) = true from rfl]; exact (decide_eq_true h).symm
    · subst h; rw [cmpR_eq, show decide ((0 : Int) < 0) = false from rfl]; exact (decide_eq_false (by grind)).symm
    · rw [cmpR_gt h, show decide ((1 : Int) < 0) = false from rfl]; exact (decide_eq_false (by grind)).symm
  obtain ⟨b1, p1, l1, K1, m1, e1, rfl, h1, n1, d1⟩ := ha
  obtain ⟨b2, p2, l2, K2, m2, e2, rfl, h2, n2, d2⟩ := hb
  have HC := Lib.hid (And.intro hk hc)
  clear hk hc hr
  have S := ((St.start w).alloc 27 [.bool b1, .slice p1 l1 K1, .int .i64 e1] (w.heap.size)).alloc 27 [.bool b2, .slice p2 l2 K2, .int .i64 e2] (w.heap.size + 1)
  try simp only [List.cons_append, List.nil_append] at S
  replace n1 := n1.hold S.hold; replace n2 := n2.hold S.hold
  have c0_ := S.c3 0 rfl; have c1_ := S.c3 1 rfl
  go_enter Tryz.func37, Tryz.ntmps37
  go_wp2_with fail; clear c0_ c1_
  refine S.cl (dcompare_any ⟨b1, p1, l1, K1, m1, e1, rfl, h1, n1, d1⟩ ⟨b2, p2, l2, K2, m2, e2, rfl, h2, n2, d2⟩ HC.out.1 c HC.out.2) ?_; clear S; rintro e w1 rfl S H
  replace n1 := n1.hold H; replace n2 := n2.hold H
  clear H; have c0_ := S.c3 0 rfl; have c1_ := S.c3 1 rfl; go_wp2_with fail
  exact bodyPost_ret (v := .bool r) (by simp [results, Tryz.f37, go_sem]) rfl (⟨rfl, S.below⟩)
def max2 (x y : Rat) : Rat := if x < y then y else x
set_option maxRecDepth 100000 in
set_option maxHeartbeats 2000000 in
theorem dmax_any {va vb : Value} {x y : Rat} {w : World} {L H : Nat} (ha : IsD w va x L H) (hb : IsD w vb y L H) (hk : H + L ≤ 16384) :
    Calls Tryz.prog 69 #[va, vb] w fun e w' => (∃ u, e = .returned u ∧ IsD w' u (max2 x y) L H) ∧ Below w.heap.size w w' := by
  obtain ⟨b1, p1, l1, K1, m1, e1, rfl, h1, n1, d1⟩ := ha
  obtain ⟨b2, p2, l2, K2, m2, e2, rfl, h2, n2, d2⟩ := hb
  have HC := Lib.hid hk
  clear hk
  by_cases hlt : x < y
  · have hr := Lib.hid (decide_eq_true hlt)
    have he := Lib.hid (show max2 x y = y from if_pos hlt)
    clear hlt
    have S := (((St.start w).alloc 27 [.bool b1, .slice p1 l1 K1, .int .i64 e1] (w.heap.size)).alloc 27 [.bool b2, .slice p2 l2 K2, .int .i64 e2] (w.heap.size + 1)).alloc 27 [.bool false, .slice none 0 0, .int .i64 0] (w.heap.size + 1 + 1)
    try simp only [List.cons_append, List.nil_append] at S
    replace n1 := n1.hold S.hold; replace n2 := n2.hold S.hold
    have c0_ := S.c3 0 rfl; have c1_ := S.c3 1 rfl; have c2_ := S.c3 2 rfl
    go_enter Tryz.func69, Tryz.ntmps69
    go_wp2_with fail; clear c0_ c1_ c2_
    refine S.cl (dless_any ⟨b1, p1, l1, K1, m1, e1, rfl, h1, n1, d1⟩ ⟨b2, p2, l2, K2, m2, e2, rfl, h2, n2, d2⟩ HC.out true hr.out) ?_; clear S; rintro e w1 rfl S H
    replace n1 := n1.hold H; replace n2 := n2.hold H
    clear H; have c0_ := S.c3 0 rfl; have c1_ := S.c3 1 rfl; have c2_ := S.c3 2 rfl; go_wp2_with fail; clear c0_ c1_ c2_
    refine S.cl (dcopied_any ⟨b2, p2, l2, K2, m2, e2, rfl, h2, n2, d2⟩ HC.out) ?_; clear S; rintro e w2 ⟨_, rfl, b3, p3, l3, K3, m3, e3, rfl, h3, n3, d3⟩ S H
    replace n1 := n1.hold H; replace n2 := n2.hold H
    clear H; have c0_ := S.c3 0 rfl; have c1_ := S.c3 1 rfl; have c2_ := S.c3 2 rfl
    obtain ⟨f2_0, f2_1, f2_2⟩ := S.f3 2 rfl
    have HP := S.put3 2 (.bool b3) (.slice p3 l3 K3) (.int .i64 e3) rfl rfl; have H := HP.2; replace S := HP.1; clear HP
    refine iw3 H n1 n2 n3 ?_; clear n1 n2 n3; intro n1 n2 n3
    clear H; go_wp2_with fail; obtain ⟨d2_0, d2_1, d2_2⟩ := S.c3 2 rfl
    exact bodyPost_ret (v := .agg #[.bool b3, .slice p3 l3 K3, .int .i64 e3]) (by simp [results, Tryz.f69, go_sem, d2_0, d2_1, d2_2]) rfl (⟨⟨_, rfl, b3, p3, l3, K3, m3, e3, rfl, h3, n3, by rw [he.out]; exact d3⟩, S.below⟩)
  · have hr := Lib.hid (decide_eq_false hlt)
    have he := Lib.hid (show max2 x y = x from if_neg hlt)
    clear hlt
    have S := (((St.start w).alloc 27 [.bool b1, .slice p1 l1 K1, .int .i64 e1] (w.heap.size)).alloc 27 [.bool b2, .slice p2 l2 K2, .int .i64 e2] (w.heap.size + 1)).alloc 27 [.bool false, .slice none 0 0, .int .i64 0] (w.heap.size + 1 + 1)
    try simp only [List.cons_append, List.nil_append] at S
    replace n1 := n1.hold S.hold; replace n2 := n2.hold S.hold
    have c0_ := S.c3 0 rfl; have c1_ := S.c3 1 rfl; have c2_ := S.c3 2 rfl
    go_enter Tryz.func69, Tryz.ntmps69
    go_wp2_with fail; clear c0_ c1_ c2_
    refine S.cl (dless_any ⟨b1, p1, l1, K1, m1, e1, rfl, h1, n1, d1⟩ ⟨b2, p2, l2, K2, m2, e2, rfl, h2, n2, d2⟩ HC.out false hr.out) ?_; clear S; rintro e w1 rfl S H
    replace n1 := n1.hold H; replace n2 := n2.hold H
    clear H; have c0_ := S.c3 0 rfl; have c1_ := S.c3 1 rfl; have c2_ := S.c3 2 rfl; go_wp2_with fail; clear c0_ c1_ c2_
    refine S.cl (dcopied_any ⟨b1, p1, l1, K1, m1, e1, rfl, h1, n1, d1⟩ HC.out) ?_; clear S; rintro e w2 ⟨_, rfl, b3, p3, l3, K3, m3, e3, rfl, h3, n3, d3⟩ S H
    replace n1 := n1.hold H; replace n2 := n2.hold H
    clear H; have c0_ := S.c3 0 rfl; have c1_ := S.c3 1 rfl; have c2_ := S.c3 2 rfl
    obtain ⟨f2_0, f2_1, f2_2⟩ := S.f3 2 rfl
    have HP := S.put3 2 (.bool b3) (.slice p3 l3 K3) (.int .i64 e3) rfl rfl; have H := HP.2; replace S := HP.1; clear HP
    refine iw3 H n1 n2 n3 ?_; clear n1 n2 n3; intro n1 n2 n3
    clear H; go_wp2_with fail; obtain ⟨d2_0, d2_1, d2_2⟩ := S.c3 2 rfl
    exact bodyPost_ret (v := .agg #[.bool b3, .slice p3 l3 K3, .int .i64 e3]) (by simp [results, Tryz.f69, go_sem, d2_0, d2_1, d2_2]) rfl (⟨⟨_, rfl, b3, p3, l3, K3, m3, e3, rfl, h3, n3, by rw [he.out]; exact d3⟩, S.below⟩)
def min2 (x y : Rat) : Rat := if y < x then y else x
set_option maxRecDepth 100000 in
set_option maxHeartbeats 2000000 in
theorem dmin_any {va vb : Value} {x y : Rat} {w : World} {L H : Nat} (ha : IsD w va x L H) (hb : IsD w vb y L H) (hk : H + L ≤ 16384) :
    Calls Tryz.prog 68 #[va, vb] w fun e w' => (∃ u, e = .returned u ∧ IsD w' u (min2 x y) L H) ∧ Below w.heap.size w w' := by
  obtain ⟨b1, p1, l1, K1, m1, e1, rfl, h1, n1, d1⟩ := ha
  obtain ⟨b2, p2, l2, K2, m2, e2, rfl, h2, n2, d2⟩ := hb
  have HC := Lib.hid hk
  clear hk
  by_cases hlt : y < x
  · have hr := Lib.hid (decide_eq_true hlt)
    have he := Lib.hid (show min2 x y = y from if_pos hlt)
    clear hlt
    have S := (((St.start w).alloc 27 [.bool b1, .slice p1 l1 K1, .int .i64 e1] (w.heap.size)).alloc 27 [.bool b2, .slice p2 l2 K2, .int .i64 e2] (w.heap.size + 1)).alloc 27 [.bool false, .slice none 0 0, .int .i64 0] (w.heap.size + 1 + 1)
    try simp only [List.cons_append, List.nil_append] at S
    replace n1 := n1.hold S.hold; replace n2 := n2.hold S.hold
    have c0_ := S.c3 0 rfl; have c1_ := S.c3 1 rfl; have c2_ := S.c3 2 rfl
    go_enter Tryz.func68, Tryz.ntmps68
    go_wp2_with fail; clear c0_ c1_ c2_
    refine S.cl (dless_any ⟨b2, p2, l2, K2, m2, e2, rfl, h2, n2, d2⟩ ⟨b1, p1, l1, K1, m1, e1, rfl, h1, n1, d1⟩ HC.out true hr.out) ?_; clear S; rintro e w1 rfl S H
    replace n1 := n1.hold H; replace n2 := n2.hold H
    clear H; have c0_ := S.c3 0 rfl; have c1_ := S.c3 1 rfl; have c2_ := S.c3 2 rfl; go_wp2_with fail; clear c0_ c1_ c2_
    refine S.cl (dcopied_any ⟨b2, p2, l2, K2, m2, e2, rfl, h2, n2, d2⟩ HC.out) ?_; clear S; rintro e w2 ⟨_, rfl, b3, p3, l3, K3, m3, e3, rfl, h3, n3, d3⟩ S H
    replace n1 := n1.hold H; replace n2 := n2.hold H
    clear H; have c0_ := S.c3 0 rfl; have c1_ := S.c3 1 rfl; have c2_ := S.c3 2 rfl
    obtain ⟨f2_0, f2_1, f2_2⟩ := S.f3 2 rfl
    have HP := S.put3 2 (.bool b3) (.slice p3 l3 K3) (.int .i64 e3) rfl rfl; have H := HP.2; replace S := HP.1; clear HP
    refine iw3 H n1 n2 n3 ?_; clear n1 n2 n3; intro n1 n2 n3
    clear H; go_wp2_with fail; obtain ⟨d2_0, d2_1, d2_2⟩ := S.c3 2 rfl
    exact bodyPost_ret (v := .agg #[.bool b3, .slice p3 l3 K3, .int .i64 e3]) (by simp [results, Tryz.f68, go_sem, d2_0, d2_1, d2_2]) rfl (⟨⟨_, rfl, b3, p3, l3, K3, m3, e3, rfl, h3, n3, by rw [he.out]; exact d3⟩, S.below⟩)
  · have hr := Lib.hid (decide_eq_false hlt)
    have he := Lib.hid (show min2 x y = x from if_neg hlt)
    clear hlt
    have S := (((St.start w).alloc 27 [.bool b1, .slice p1 l1 K1, .int .i64 e1] (w.heap.size)).alloc 27 [.bool b2, .slice p2 l2 K2, .int .i64 e2] (w.heap.size + 1)).alloc 27 [.bool false, .slice none 0 0, .int .i64 0] (w.heap.size + 1 + 1)
    try simp only [List.cons_append, List.nil_append] at S
    replace n1 := n1.hold S.hold; replace n2 := n2.hold S.hold
    have c0_ := S.c3 0 rfl; have c1_ := S.c3 1 rfl; have c2_ := S.c3 2 rfl
    go_enter Tryz.func68, Tryz.ntmps68
    go_wp2_with fail; clear c0_ c1_ c2_
    refine S.cl (dless_any ⟨b2, p2, l2, K2, m2, e2, rfl, h2, n2, d2⟩ ⟨b1, p1, l1, K1, m1, e1, rfl, h1, n1, d1⟩ HC.out false hr.out) ?_; clear S; rintro e w1 rfl S H
    replace n1 := n1.hold H; replace n2 := n2.hold H
    clear H; have c0_ := S.c3 0 rfl; have c1_ := S.c3 1 rfl; have c2_ := S.c3 2 rfl; go_wp2_with fail; clear c0_ c1_ c2_
    refine S.cl (dcopied_any ⟨b1, p1, l1, K1, m1, e1, rfl, h1, n1, d1⟩ HC.out) ?_; clear S; rintro e w2 ⟨_, rfl, b3, p3, l3, K3, m3, e3, rfl, h3, n3, d3⟩ S H
    replace n1 := n1.hold H; replace n2 := n2.hold H
    clear H; have c0_ := S.c3 0 rfl; have c1_ := S.c3 1 rfl; have c2_ := S.c3 2 rfl
    obtain ⟨f2_0, f2_1, f2_2⟩ := S.f3 2 rfl
    have HP := S.put3 2 (.bool b3) (.slice p3 l3 K3) (.int .i64 e3) rfl rfl; have H := HP.2; replace S := HP.1; clear HP
    refine iw3 H n1 n2 n3 ?_; clear n1 n2 n3; intro n1 n2 n3
    clear H; go_wp2_with fail; obtain ⟨d2_0, d2_1, d2_2⟩ := S.c3 2 rfl
    exact bodyPost_ret (v := .agg #[.bool b3, .slice p3 l3 K3, .int .i64 e3]) (by simp [results, Tryz.f68, go_sem, d2_0, d2_1, d2_2]) rfl (⟨⟨_, rfl, b3, p3, l3, K3, m3, e3, rfl, h3, n3, by rw [he.out]; exact d3⟩, S.below⟩)
theorem ZF.add {x y f : Int} {L H : Nat} (h : ZF x f L H) (g : ZF y f L H) : ZF (x + y) f L (H + 1) := by
  refine ⟨h.1, ?_⟩
  have h1 := h.2
  have h2 := g.2
  rw [show H + 1 + L = 1 + (H + L) by omega, PB_add, PB_is 1]
  have h3 : (x + y).natAbs ≤ x.natAbs + y.natAbs := Int.natAbs_add_le x y
  have h4 := Nat.mul_le_mul_right (2 ^ (f + L).toNat) h3
  rw [Nat.add_mul] at h4
  omega
theorem ZF.mul {x y e f : Int} {L H M I : Nat} (h : ZF x e L H) (g : ZF y f M I) : ZF (x * y) (e + f) (L + M) (H + I) := by
  have h0 := h.1
  have g0 := g.1
  refine ⟨by omega, ?_⟩
  rw [Int.natAbs_mul, show (e + f + ((L + M : Nat) : Int)).toNat = (e + L).toNat + (f + M).toNat by omega, Nat.pow_add, show H + I + (L + M) = (H + L) + (I + M) by omega, PB_add]
  have h1 := h.2
  have h2 := g.2
  generalize 2 ^ (e + (L : Int)).toNat = p at *
  generalize 2 ^ (f + (M : Int)).toNat = q at *
  have : x.natAbs * y.natAbs * (p * q) = (x.natAbs * p) * (y.natAbs * q) := by simp [Nat.mul_assoc, Nat.mul_comm, Nat.mul_left_comm]
  rw [this]
  exact Nat.mul_lt_mul'' h1 h2
set_option maxRecDepth 100000 in
set_option maxHeartbeats 4000000 in
theorem dadd_any {va vb : Value} {x y : Rat} {w : World} {L H : Nat} (hT : Tab w) (ha : IsD w va x L H) (hb : IsD w vb y L H) (hLH : H + 1 + L ≤ 16384) (q : Rat) (hq : x + y = q) :
    Calls Tryz.prog 26 #[va, vb] w fun e w' => (∃ u, e = .returned (.tuple #[u, .int .i64 0]) ∧ IsD w' u q L (H + 1)) ∧ Below w.heap.size w w' := by
  obtain ⟨b1, p1, l1, K1, m1, e1, rfl, h1, n1, d1⟩ := ha
  obtain ⟨b2, p2, l2, K2, m2, e2, rfl, h2, n2, d2⟩ := hb
  obtain ⟨X, Y, f, hb, hX, hY, CA⟩ := dalign_any (p1 := p1) (p2 := p2) (l1 := l1) (l2 := l2) (K1 := K1) (K2 := K2) h1 h2 d1.out d2.out (by omega)
  obtain ⟨Z, hZ⟩ : ∃ Z, X + Y = Z := ⟨_, rfl⟩
  have hZb : ZF Z f L (H + 1) := by rw [← hZ]; exact hb.1.add hb.2
  have hq2 : dq Z f = q := by rw [← hq, hX, hY, dq_add, hZ]
  have HA := Lib.hid CA
  have HD := Lib.hid (And.intro hT (And.intro hZ (And.intro hZb (And.intro hq2 (And.intro hLH (And.intro (hb.1.max (by omega)) (hb.2.max (by omega))))))))
  clear hT hq hb hX hY CA hZ hZb hq2 hLH
  have S := (((St.start w).alloc 27 [.bool b1, .slice p1 l1 K1, .int .i64 e1] (w.heap.size)).alloc 27 [.bool b2, .slice p2 l2 K2, .int .i64 e2] (w.heap.size + 1)).alloc 27 [.bool false, .slice none 0 0, .int .i64 0] (w.heap.size + 1 + 1)
  try simp only [List.cons_append, List.nil_append] at S
  replace n1 := n1.hold S.hold; replace n2 := n2.hold S.hold
  have c0_ := S.c3 0 rfl; have c1_ := S.c3 1 rfl; have c2_ := S.c3 2 rfl
  go_enter Tryz.func26, Tryz.ntmps26
  go_wp2_with fail; clear c0_ c1_ c2_
  refine S.cl (HA.out _ n1 n2) ?_; clear S; rintro e w1 ⟨_, _, rfl, ⟨pa, la, Ka, rfl, na⟩, ⟨pb, lb, Kb, rfl, nb⟩⟩ S H
  replace n1 := n1.hold H; replace n2 := n2.hold H
  clear H; have c0_ := S.c3 0 rfl; have c1_ := S.c3 1 rfl; have c2_ := S.c3 2 rfl
  have H := S.hnew 25 [.bool (negB X), .slice pa la Ka]
  replace S := S.al 25 [.bool (negB X), .slice pa la Ka] (w1.heap.size)
  refine iv4 H n1 n2 na nb ?_; clear n1 n2 na nb; intro n1 n2 na nb
  clear H
  have H := S.hnew 25 [.bool (negB Y), .slice pb lb Kb]
  replace S := S.al 25 [.bool (negB Y), .slice pb lb Kb] (w1.heap.size + 1)
  refine iv4 H n1 n2 na nb ?_; clear n1 n2 na nb; intro n1 n2 na nb
  clear H; clear c0_ c1_ c2_; have c0_ := S.c3 0 rfl; have c1_ := S.c3 1 rfl; have c2_ := S.c3 2 rfl; have c3_ := S.c2 3 rfl; have c4_ := S.c2 4 rfl; go_wp2_with fail; clear c0_ c1_ c2_ c3_ c4_
  refine S.cl (wadd_to ⟨_, _, _, rfl, na⟩ ⟨_, _, _, rfl, nb⟩ HD.out.2.2.2.2.2.1 HD.out.2.2.2.2.2.2 Z HD.out.2.1 (HD.out.2.2.1.max HD.out.2.2.2.2.1)) ?_; clear S; rintro e w2 ⟨_, rfl, pz, lz, Kz, rfl, nz⟩ S H
  refine iv4 H n1 n2 na nb ?_; clear n1 n2 na nb; intro n1 n2 na nb
  clear H; have c0_ := S.c3 0 rfl; have c1_ := S.c3 1 rfl; have c2_ := S.c3 2 rfl; have c3_ := S.c2 3 rfl; have c4_ := S.c2 4 rfl
  have H := S.hnew 25 [.bool (negB Z), .slice pz lz Kz]
  replace S := S.al 25 [.bool (negB Z), .slice pz lz Kz] (w2.heap.size)
  refine iv5 H n1 n2 na nb nz ?_; clear n1 n2 na nb nz; intro n1 n2 na nb nz
  clear H; clear c0_ c1_ c2_ c3_ c4_; have c0_ := S.c3 0 rfl; have c1_ := S.c3 1 rfl; have c2_ := S.c3 2 rfl; have c3_ := S.c2 3 rfl; have c4_ := S.c2 4 rfl; have c5_ := S.c2 5 rfl; go_wp2_with fail; clear c0_ c1_ c2_ c3_ c4_ c5_
  refine S.cl (dtimes_any (HD.out.1.below S.below) ⟨_, _, _, rfl, nz⟩ HD.out.2.2.1 HD.out.2.2.2.2.1 q HD.out.2.2.2.1) ?_; clear S; rintro e w3 ⟨_, rfl, b3, p3, l3, K3, m3, e3, rfl, h3, n3, d3⟩ S H
  refine iv5 H n1 n2 na nb nz ?_; clear n1 n2 na nb nz; intro n1 n2 na nb nz
  clear H; have c0_ := S.c3 0 rfl; have c1_ := S.c3 1 rfl; have c2_ := S.c3 2 rfl; have c3_ := S.c2 3 rfl; have c4_ := S.c2 4 rfl; have c5_ := S.c2 5 rfl
  obtain ⟨f2_0, f2_1, f2_2⟩ := S.f3 2 rfl
  have HP := S.put3 2 (.bool b3) (.slice p3 l3 K3) (.int .i64 e3) rfl rfl; have H := HP.2; replace S := HP.1; clear HP
  refine iw6 H n1 n2 na nb nz n3 ?_; clear n1 n2 na nb nz n3; intro n1 n2 na nb nz n3
  clear H; go_wp2_with fail; obtain ⟨d2_0, d2_1, d2_2⟩ := S.c3 2 rfl
  exact bodyPost_ret (v := .tuple #[.agg #[.bool b3, .slice p3 l3 K3, .int .i64 e3], .int .i64 0]) (by simp [results, Tryz.f26, go_sem, d2_0, d2_1, d2_2]) rfl (⟨⟨_, rfl, b3, p3, l3, K3, m3, e3, rfl, h3, n3, d3⟩, S.below⟩)
set_option maxRecDepth 100000 in
set_option maxHeartbeats 4000000 in
theorem dsub_any {va vb : Value} {x y : Rat} {w : World} {L H : Nat} (hT : Tab w) (ha : IsD w va x L H) (hb : IsD w vb y L H) (hLH : H + 1 + L ≤ 16384) (q : Rat) (hq : x - y = q) :
    Calls Tryz.prog 27 #[va, vb] w fun e w' => (∃ u, e = .returned (.tuple #[u, .int .i64 0]) ∧ IsD w' u q L (H + 1)) ∧ Below w.heap.size w w' := by
  obtain ⟨b1, p1, l1, K1, m1, e1, rfl, h1, n1, d1⟩ := ha
  obtain ⟨b2, p2, l2, K2, m2, e2, rfl, h2, n2, d2⟩ := hb
  have hq2 : x + -y = q := by rw [← hq, Rat.sub_eq_add_neg]
  have HD := Lib.hid (And.intro hT (And.intro hLH hq2))
  have HK := Lib.hid (show H + L ≤ 16384 by omega)
  clear hT hLH hq hq2
  have S := (((St.start w).alloc 27 [.bool b1, .slice p1 l1 K1, .int .i64 e1] (w.heap.size)).alloc 27 [.bool b2, .slice p2 l2 K2, .int .i64 e2] (w.heap.size + 1)).alloc 27 [.bool false, .slice none 0 0, .int .i64 0] (w.heap.size + 1 + 1)
  try simp only [List.cons_append, List.nil_append] at S
  replace n1 := n1.hold S.hold; replace n2 := n2.hold S.hold
  have c0_ := S.c3 0 rfl; have c1_ := S.c3 1 rfl; have c2_ := S.c3 2 rfl
  go_enter Tryz.func27, Tryz.ntmps27
  go_upto_region 1 with fail
  clear c0_ c1_ c2_
  generalize (((w.alloc (.cells #[.bool b1, .slice p1 l1 K1, .int .i64 e1] 27)).alloc (.cells #[.bool b2, .slice p2 l2 K2, .int .i64 e2] 27)).alloc (.cells #[.bool false, .slice none 0 0, .int .i64 0] 27)) = w1 at S n1 n2 ⊢
  have HH := (Hold.drew w1).to32
  replace n1 := n1.hold32 HH; replace n2 := n2.hold32 HH
  replace S := S.drew
  refine wp_region_held_drew (S := fun W => W.cell? ⟨w.heap.size, 0, none⟩ = some (.bool b1) ∧ W.cell? ⟨w.heap.size, 1, none⟩ = some (.slice p1 l1 K1) ∧ W.cell? ⟨w.heap.size, 2, none⟩ = some (.int .i64 e1) ∧ W.cell? ⟨w.heap.size + 1, 0, none⟩ = some (.bool b2) ∧ W.cell? ⟨w.heap.size + 1, 1, none⟩ = some (.slice p2 l2 K2) ∧ W.cell? ⟨w.heap.size + 1, 2, none⟩ = some (.int .i64 e2)) (by kernel_rfl) (con3 (S.c3 0 rfl) (S.c3 1 rfl)) (fun hS => ?_)
  generalize w1.drew = w2 at S n1 n2 HH hS ⊢
  refine tk 0 hS ?_
  refine tk 1 hS ?_
  refine rd 2 fun KK hKK => ?_
  go_simp; clear hS
  refine S.cl (dneg_any ⟨b2, p2, l2, K2, m2, e2, rfl, h2, n2, d2⟩ HK.out) ?_; clear S; rintro e w3 ⟨_, rfl, b4, p4, l4, K4, m4, e4, rfl, h4, n4, d4⟩ S H
  replace n1 := n1.hold H; replace n2 := n2.hold H; replace HH := HH.trans H.to32; clear H
  go_wp2_with fail
  refine ho hKK (con3 (S.c3 0 rfl) (S.c3 1 rfl)) fun hS => ?_
  clear hKK KK
  refine rd 3 fun KK hKK => ?_
  go_simp; clear hS
  refine S.cl (dadd_any (HD.out.1.below S.below) ⟨b1, p1, l1, K1, m1, e1, rfl, h1, n1, d1⟩ ⟨b4, p4, l4, K4, m4, e4, rfl, h4, n4, d4⟩ HD.out.2.1 q HD.out.2.2) ?_; clear S; rintro e w4 ⟨_, rfl, b3, p3, l3, K3, m3, e3, rfl, h3, n3, d3⟩ S H
  refine iv3 H n1 n2 n4 ?_; clear n1 n2 n4; intro n1 n2 n4; replace HH := HH.trans H.to32; clear H
  go_wp2_with fail
  refine ho hKK (con3 (S.c3 0 rfl) (S.c3 1 rfl)) fun hS => ?_
  clear hKK KK
  refine tk 4 hS ?_
  refine tk 5 hS ?_
  refine rd 6 fun KK hKK => ?_
  obtain ⟨c0, c1, c2⟩ := S.c3 2 rfl; obtain ⟨f0, f1, f2⟩ := S.f3 2 rfl
  go_simp; clear hS c0 f0 c1 f1 c2 f2
  have HP := S.put3 2 (.bool b3) (.slice p3 l3 K3) (.int .i64 e3) rfl rfl; have H := HP.2; replace S := HP.1; clear HP
  refine iw5 H n1 n2 n4 n3 HH ?_; clear n1 n2 n4 n3 HH H; intro n1 n2 n4 n3 HH
  refine ho hKK (con3 (S.c3 0 rfl) (S.c3 1 rfl)) fun hS => ?_
  generalize (((w4.setCell ⟨w.heap.size + 1 + 1, 0, none⟩ (.bool b3)).setCell ⟨w.heap.size + 1 + 1, 1, none⟩ (.slice p3 l3 K3)).setCell ⟨w.heap.size + 1 + 1, 2, none⟩ (.int .i64 e3)) = w5 at S n1 n2 n4 n3 HH hS ⊢
  clear hKK KK
  refine rd 7 fun KK hKK => ?_
  go_simp
  refine ho hKK hS fun hS => ?_
  clear hKK KK
  refine wpAnyH_done (by kernel_rfl) ?_ _
  clear hS HH; have c0_ := S.c3 0 rfl; have c1_ := S.c3 1 rfl; have c2_ := S.c3 2 rfl; go_wp2_with fail; obtain ⟨d2_0, d2_1, d2_2⟩ := S.c3 2 rfl
  exact bodyPost_ret (v := .tuple #[.agg #[.bool b3, .slice p3 l3 K3, .int .i64 e3], .int .i64 0]) (by simp [results, Tryz.f27, go_sem, d2_0, d2_1, d2_2]) rfl (⟨⟨_, rfl, b3, p3, l3, K3, m3, e3, rfl, h3, n3, d3⟩, S.below⟩)
set_option maxRecDepth 100000 in
set_option maxHeartbeats 4000000 in
theorem dmul_any {va vb : Value} {x y : Rat} {w : World} {L H M I : Nat} (hT : Tab w) (ha : IsD w va x L H) (hb : IsD w vb y M I) (hLH : H + I + (L + M) ≤ 16384) (q : Rat) (hq : x * y = q) :
    Calls Tryz.prog 29 #[va, vb] w fun e w' => (∃ u, e = .returned (.tuple #[u, .int .i64 0]) ∧ IsD w' u q (L + M) (H + I)) ∧ Below w.heap.size w w' := by
  obtain ⟨b1, p1, l1, K1, m1, e1, rfl, h1, n1, d1⟩ := ha
  obtain ⟨b2, p2, l2, K2, m2, e2, rfl, h2, n2, d2⟩ := hb
  have g1 := d1.out.exp
  have g2 := d2.out.exp
  obtain ⟨Z, hZ⟩ : ∃ Z, m1 * m2 = Z := ⟨_, rfl⟩
  obtain ⟨f, hf⟩ : ∃ f, e1 + e2 = f := ⟨_, rfl⟩
  have hZb : ZF Z f (L + M) (H + I) := by rw [← hZ, ← hf]; exact d1.out.2.1.mul d2.out.2.1
  have hwr : IntKind.i64.wrap (e1 + e2) = f := by rw [wrap_int (by omega) (by omega), hf]
  have hq2 : dq Z f = q := by rw [← hq, ← d1.out.2.2, ← d2.out.2.2, dq_mul, hZ, hf]
  have HD := Lib.hid (And.intro hT (And.intro hZ (And.intro hZb (And.intro hq2 (And.intro hLH (And.intro (d1.out.max (by omega)) (d2.out.max (by omega))))))))
  clear hT hq g1 g2 hZ hZb hf hq2 hLH
  have S := (((St.start w).alloc 27 [.bool b1, .slice p1 l1 K1, .int .i64 e1] (w.heap.size)).alloc 27 [.bool b2, .slice p2 l2 K2, .int .i64 e2] (w.heap.size + 1)).alloc 27 [.bool false, .slice none 0 0, .int .i64 0] (w.heap.size + 1 + 1)
  try simp only [List.cons_append, List.nil_append] at S
  replace n1 := n1.hold S.hold; replace n2 := n2.hold S.hold
  have c0_ := S.c3 0 rfl; have c1_ := S.c3 1 rfl; have c2_ := S.c3 2 rfl
  go_enter Tryz.func29, Tryz.ntmps29
  go_wp2_with fail; clear c0_ c1_ c2_
  refine S.cl (wmul_to ⟨_, _, _, by rw [h1.out], n1⟩ ⟨_, _, _, by rw [h2.out], n2⟩ HD.out.2.2.2.2.2.1 HD.out.2.2.2.2.2.2 Z HD.out.2.1 (HD.out.2.2.1.max HD.out.2.2.2.2.1)) ?_; clear S; rintro e w1 ⟨_, rfl, pz, lz, Kz, rfl, nz⟩ S H
  replace n1 := n1.hold H; replace n2 := n2.hold H
  clear H; have c0_ := S.c3 0 rfl; have c1_ := S.c3 1 rfl; have c2_ := S.c3 2 rfl
  have H := S.hnew 25 [.bool (negB Z), .slice pz lz Kz]
  replace S := S.al 25 [.bool (negB Z), .slice pz lz Kz] (w1.heap.size)
  refine iv3 H n1 n2 nz ?_; clear n1 n2 nz; intro n1 n2 nz
  clear H; clear c0_ c1_ c2_; have c0_ := S.c3 0 rfl; have c1_ := S.c3 1 rfl; have c2_ := S.c3 2 rfl; have c3_ := S.c2 3 rfl; go_wp2_with fail; clear c0_ c1_ c2_ c3_
  refine S.cl (dtimes_any (HD.out.1.below S.below) ⟨_, _, _, rfl, nz⟩ HD.out.2.2.1 HD.out.2.2.2.2.1 q HD.out.2.2.2.1) ?_; clear S; rintro e w2 ⟨_, rfl, b3, p3, l3, K3, m3, e3, rfl, h3, n3, d3⟩ S H
  refine iv3 H n1 n2 nz ?_; clear n1 n2 nz; intro n1 n2 nz
  clear H; have c0_ := S.c3 0 rfl; have c1_ := S.c3 1 rfl; have c2_ := S.c3 2 rfl; have c3_ := S.c2 3 rfl
  obtain ⟨f2_0, f2_1, f2_2⟩ := S.f3 2 rfl
  have HP := S.put3 2 (.bool b3) (.slice p3 l3 K3) (.int .i64 e3) rfl rfl; have H := HP.2; replace S := HP.1; clear HP
  refine iw4 H n1 n2 nz n3 ?_; clear n1 n2 nz n3; intro n1 n2 nz n3
  clear H; go_wp2_with fail; obtain ⟨d2_0, d2_1, d2_2⟩ := S.c3 2 rfl
  exact bodyPost_ret (v := .tuple #[.agg #[.bool b3, .slice p3 l3 K3, .int .i64 e3], .int .i64 0]) (by simp [results, Tryz.f29, go_sem, d2_0, d2_1, d2_2]) rfl (⟨⟨_, rfl, b3, p3, l3, K3, m3, e3, rfl, h3, n3, d3⟩, S.below⟩)
def rndI (m : Int) (v : Nat) (up : Bool) : Int := m / 2 ^ v + (if up = true then 1 else 0)
def rnd (m e : Int) (n : Nat) (up : Bool) : Rat := if nbits m.natAbs ≤ n then dq m e else dq (rndI m (nbits m.natAbs - n) up) (e + ((nbits m.natAbs - n : Nat) : Int))
theorem rndI_le (m : Int) (v : Nat) (up : Bool) : (rndI m v up).natAbs * 2 ^ v ≤ m.natAbs + 2 ^ v := by
  obtain ⟨d, hd⟩ : ∃ d : Nat, 2 ^ v = d := ⟨_, rfl⟩
  have hd0 : 0 < d := by rw [← hd]; exact Nat.two_pow_pos v
  have hdI : (2 : Int) ^ v = (d : Int) := by rw [← hd]; simp
  unfold rndI
  rw [hd, hdI]
  have h1 := Int.emod_add_mul_ediv m (d : Int)
  have h2 := Int.emod_nonneg m (show (d : Int) ≠ 0 by omega)
  have h3 := Int.emod_lt_of_pos m (show (0 : Int) < (d : Int) by omega)
  generalize m / (d : Int) = q at *
  generalize m % (d : Int) = r at *
  obtain ⟨u, hu⟩ : ∃ u : Int, (if up = true then 1 else 0) = u := ⟨_, rfl⟩
  rw [hu]
  have hu2 : u = 0 ∨ u = 1 := by rw [← hu]; split <;> simp
  have h4 : (q + u).natAbs * d = ((q + u) * (d : Int)).natAbs := by rw [Int.natAbs_mul, Int.natAbs_natCast]
  have h5 : (q + u) * (d : Int) = (d : Int) * q + u * d := by rw [Int.add_mul, Int.mul_comm q]
  rw [h4, h5]
  rcases hu2 with rfl | rfl <;> omega
theorem rnd_zf {m e : Int} {L H v : Nat} (up : Bool) (h : ZF m e L H) (hv : 2 ^ v ≤ m.natAbs) : ZF (rndI m v up) (e + v) L (H + 1) := by
  have h0 := h.1
  refine ⟨by omega, ?_⟩
  have h1 := rndI_le m v up
  rw [show (e + (v : Int) + L).toNat = v + (e + L).toNat by omega, Nat.pow_add, ← Nat.mul_assoc, show H + 1 + L = 1 + (H + L) by omega, PB_add, PB_is 1]
  have h2 := h.2
  have h3 : (rndI m v up).natAbs * 2 ^ v ≤ 2 * m.natAbs := by omega
  generalize 2 ^ (e + (L : Int)).toNat = s at *
  have h4 := Nat.mul_le_mul_right s h3
  have h5 : 2 * m.natAbs * s = 2 * (m.natAbs * s) := Nat.mul_assoc ..
  omega
set_option maxRecDepth 100000 in
set_option maxHeartbeats 8000000 in
theorem dround_any {b : Bool} {p : Option Addr} {l K : Nat} {m e : Int} {x : Rat} {L H : Nat} {w : World} (hT : Tab w) (hb : Hid (negB m = b)) (nm : IsNat w (.slice p l K) m.natAbs) (hd : Hid (DyF m e x L H)) (hLH : H + 1 + L ≤ 16384) (n : Nat) (h2 : 2 ≤ n) (h4 : n ≤ 4096) (up : Bool) (y : Rat) (hy : rnd m e n up = y) :
    Calls Tryz.prog 70 #[.agg #[.bool b, .slice p l K, .int .i64 e], .int .i64 n, .bool up] w fun ev w' => (∃ u, ev = .returned (.tuple #[u, .int .i64 0]) ∧ IsD w' u y L (H + 1)) ∧ Below w.heap.size w w' := by
  obtain ⟨t, ht⟩ : ∃ t, nbits m.natAbs = t := ⟨_, rfl⟩
  have hmax := hd.out.max (by omega)
  have HX := Lib.hid (show -65536 ≤ e ∧ e ≤ 65536 by have := hd.out.exp; omega)
  have HN := Lib.hid (And.intro (show (2 : Int) ≤ (n : Int) by omega) (show (n : Int) ≤ 4096 by omega))
  have HD := Lib.hid (And.intro hT (And.intro ht (And.intro hmax hLH)))
  by_cases htn : t ≤ n
  · have hy0 : x = y := by rw [← hy, ← hd.out.2.2]; unfold rnd; rw [if_pos (by rw [ht]; exact htn)]
    obtain ⟨o, ho⟩ : ∃ o : Int, (t : Int) - (n : Int) = o := ⟨_, rfl⟩
    have htl : t ≤ 16384 := by
      rcases Nat.eq_zero_or_pos m.natAbs with h | h
      · rw [← ht, h]; decide
      · have := nbits_pb (n := m.natAbs) (by omega) hd.out.2.1.size; omega
    have hwr : IntKind.i64.wrap ((t : Int) - (n : Int)) = o := by rw [wrap_int (by omega) (by omega), ho]
    have ho0 : o ≤ 0 := by omega
    have HY := Lib.hid hy0
    clear hT hy ht hmax htn ho htl h2 h4 hLH hy0
    have S := ((St.start w).alloc 27 [.bool b, .slice p l K, .int .i64 e] (w.heap.size)).alloc 27 [.bool false, .slice none 0 0, .int .i64 0] (w.heap.size + 1)
    try simp only [List.cons_append, List.nil_append] at S
    replace nm := nm.hold S.hold
    have c0_ := S.c3 0 rfl; have c1_ := S.c3 1 rfl
    go_enter Tryz.func70, Tryz.ntmps70
    go_wp2_with fail; clear c0_ c1_
    refine S.cl (bits_in n _ HN.out.1 HN.out.2) ?_; clear S; rintro e w1 rfl S H
    replace nm := nm.hold H; clear H; have c0_ := S.c3 0 rfl; have c1_ := S.c3 1 rfl; go_wp2_with fail; clear c0_ c1_
    refine S.cl (bits_nat nm HD.out.2.2.1 HD.out.2.1) ?_; clear S; rintro e w2 rfl S H
    replace nm := nm.hold H; clear H; have c0_ := S.c3 0 rfl; have c1_ := S.c3 1 rfl; go_wp2_with fail; clear c0_ c1_
    refine S.cl (dcopied_any ⟨b, p, l, K, m, e, rfl, hb, nm, hd⟩ (by have := HD.out.2.2.2; omega)) ?_; clear S; rintro e w3 ⟨_, rfl, b3, p3, l3, K3, m3, e3, rfl, h3, n3, d3⟩ S H
    replace nm := nm.hold H; clear H; have c0_ := S.c3 0 rfl; have c1_ := S.c3 1 rfl
    obtain ⟨f1_0, f1_1, f1_2⟩ := S.f3 1 rfl
    have HP := S.put3 1 (.bool b3) (.slice p3 l3 K3) (.int .i64 e3) rfl rfl; have H := HP.2; replace S := HP.1; clear HP
    replace nm := nm.hold32 H; replace n3 := n3.hold32 H
    clear H; go_wp2_with fail; obtain ⟨d1_0, d1_1, d1_2⟩ := S.c3 1 rfl
    exact bodyPost_ret (v := .tuple #[.agg #[.bool b3, .slice p3 l3 K3, .int .i64 e3], .int .i64 0]) (by simp [results, Tryz.f70, go_sem, d1_0, d1_1, d1_2]) rfl (⟨⟨_, rfl, b3, p3, l3, K3, m3, e3, rfl, h3, n3, by rw [← HY.out]; exact d3.out.mono (Nat.le_refl _) (by omega)⟩, S.below⟩)
  · obtain ⟨v, hv⟩ : ∃ v : Nat, t - n = v := ⟨_, rfl⟩
    have hm0 : m.natAbs ≠ 0 := fun e0 => htn (by rw [← ht, e0]; simp [nbits])
    have htl : t ≤ 16384 := by have := nbits_pb (n := m.natAbs) hm0 hd.out.2.1.size; omega
    have hwr : IntKind.i64.wrap ((t : Int) - (n : Int)) = (v : Int) := by rw [wrap_int (by omega) (by omega)]; omega
    have hv0 : ¬ (v : Int) ≤ 0 := by omega
    obtain ⟨f, hf⟩ : ∃ f, e + (v : Int) = f := ⟨_, rfl⟩
    have hex := hd.out.exp
    have hwe : IntKind.i64.wrap (e + (v : Int)) = f := by rw [wrap_int (by omega) (by omega), hf]
    have h2v : 2 ^ v ≤ m.natAbs := by
      obtain ⟨a1, a2, _⟩ := nbits_spec hm0
      rw [ht] at a2
      exact Nat.le_trans (Nat.pow_le_pow_right (by decide) (by omega)) a2
    have hzf := rnd_zf up hd.out.2.1 h2v
    obtain ⟨z, hz⟩ : ∃ z, m / 2 ^ v = z := ⟨_, rfl⟩
    obtain ⟨z1, hz1⟩ : ∃ z1, rndI m v up = z1 := ⟨_, rfl⟩
    rw [hz1, hf] at hzf
    have hzf0 := rnd_zf false hd.out.2.1 h2v
    have hz0 : rndI m v false = z := by unfold rndI; rw [if_neg (by decide), Int.add_zero]; exact hz
    rw [hz0, hf] at hzf0
    have hy2 : dq z1 f = y := by rw [← hy]; unfold rnd; rw [if_neg (by rw [ht]; exact htn), ht, hv, hz1, hf]
    have HZ := Lib.hid (And.intro hz (And.intro hzf (And.intro hy2 (And.intro (show v ≤ 9223372036854775807 by omega) (And.intro (hzf0.max hLH) (hzf.max hLH))))))
    clear hT hy ht hmax htn hv hm0 htl hf hex h2v hz hzf hzf0 hz0 hy2 h2 h4 hLH
    cases up with
    | true =>
      have HU := Lib.hid (show z + 1 = z1 by rw [← hz1, ← HZ.out.1]; unfold rndI; rw [if_pos rfl])
      clear hz1
      have S := ((St.start w).alloc 27 [.bool b, .slice p l K, .int .i64 e] (w.heap.size)).alloc 27 [.bool false, .slice none 0 0, .int .i64 0] (w.heap.size + 1)
      try simp only [List.cons_append, List.nil_append] at S
      replace nm := nm.hold S.hold
      have c0_ := S.c3 0 rfl; have c1_ := S.c3 1 rfl
      go_enter Tryz.func70, Tryz.ntmps70
      go_wp2_with fail; clear c0_ c1_
      refine S.cl (bits_in n _ HN.out.1 HN.out.2) ?_; clear S; rintro e w1 rfl S H
      replace nm := nm.hold H; clear H; have c0_ := S.c3 0 rfl; have c1_ := S.c3 1 rfl; go_wp2_with fail; clear c0_ c1_
      refine S.cl (bits_nat nm HD.out.2.2.1 HD.out.2.1) ?_; clear S; rintro e w2 rfl S H
      replace nm := nm.hold H; clear H; have c0_ := S.c3 0 rfl; have c1_ := S.c3 1 rfl; clear c0_ c1_; have c0_ := S.c3 0 rfl; have c1_ := S.c3 1 rfl; go_wp2_with fail; clear c0_ c1_
      refine S.cl (wright_any (HD.out.1.below S.below) ⟨_, _, _, by rw [hb.out], nm⟩ HD.out.2.2.1 v HZ.out.2.2.2.1 z HZ.out.1) ?_; clear S; rintro e w3 ⟨_, rfl, pz, lz, Kz, rfl, nz⟩ S H
      replace nm := nm.hold H; clear H; have c0_ := S.c3 0 rfl; have c1_ := S.c3 1 rfl
      have H := S.hnew 25 [.bool (negB z), .slice pz lz Kz]
      replace S := S.al 25 [.bool (negB z), .slice pz lz Kz] (w3.heap.size)
      replace nm := nm.hold H; replace nz := nz.hold H
      clear H; clear c0_ c1_; have c0_ := S.c3 0 rfl; have c1_ := S.c3 1 rfl; have c2_ := S.c2 2 rfl
      go_upto_region 8 with fail
      clear c0_ c1_ c2_
      generalize (w3.alloc (.cells #[.bool (negB z), .slice pz lz Kz] 25)) = w4 at S nm nz ⊢
      go_cut [10] (fun s10 wx => ∃ py ly Ky, s10 = .int .i64 0 ∧ St w wx [(w.heap.size, 27, [.bool b, .slice p l K, .int .i64 e]), (w.heap.size + 1, 27, [.bool false, .slice none 0 0, .int .i64 0]), (w3.heap.size, 25, [.bool (negB z1), .slice py ly Ky])] ∧ IsNat wx (.slice py ly Ky) z1.natAbs ∧ Hold w4 wx)
      case first =>
        have HH := Hold.drew w4
        replace nm := nm.hold HH; replace nz := nz.hold HH
        replace S := S.drew
        refine wp_region_held_drew (S := fun W => True) (by kernel_rfl) trivial (fun hS => ?_)
        generalize w4.drew = w5 at S nm nz HH hS ⊢
        refine wpAnyH_ready (rs := [0, 1]) (by kernel_rfl) (by simp) (AllReadyH.cons (opOf rfl) (fun KK hKK => ?_) (AllReadyH.cons (opOf rfl) (fun KK hKK => ?_) AllReadyH.nil))
        ·
          have c2_ := S.c2 2 rfl; go_simp; clear c2_
          refine ho hKK hS fun hS => ?_
          clear hKK KK
          refine rd 1 fun KK hKK => ?_
          go_simp; clear hS
          refine S.cl (wof_any 1 _ (by decide) (by decide)) ?_; clear S; rintro e w6 ⟨_, rfl, po, lo, Ko, rfl, no⟩ S H
          refine iv3 H nm nz HH ?_; clear nm nz HH H; intro nm nz HH
          go_wp2_with fail
          refine ho hKK trivial fun hS => ?_
          clear hKK KK
          refine rd 2 fun KK hKK => ?_
          go_simp; clear hS
          refine S.cl (wadd_to ⟨_, _, _, rfl, nz⟩ ⟨_, _, _, rfl, no⟩ HZ.out.2.2.2.2.1 (lt_maxN (by decide)) z1 HU.out HZ.out.2.2.2.2.2) ?_; clear S; rintro e w7 ⟨_, rfl, py, ly, Ky, rfl, ny⟩ S H
          refine iv4 H nm nz no HH ?_; clear nm nz no HH H; intro nm nz no HH
          go_wp2_with fail
          refine ho hKK trivial fun hS => ?_
          clear hKK KK
          refine tk 3 hS ?_
          refine tk 4 hS ?_
          refine tk 5 hS ?_
          refine rd 6 fun KK hKK => ?_
          have c0 := S.c 2 0 rfl rfl; have f0 := S.f 2 0 rfl; have c1 := S.c 2 1 rfl rfl; have f1 := S.f 2 1 rfl; go_simp; clear hS c0 f0 c1 f1
          have H := S.hset 2 0 (.bool (negB z1)) rfl rfl (by intro q n e; cases e)
          replace S := S.set 2 0 (.bool (negB z1)) rfl
          refine iv5 H nm nz no ny HH ?_; clear nm nz no ny HH H; intro nm nz no ny HH
          have H := S.hset 2 1 (.slice py ly Ky) rfl rfl (by intro q n e; cases e)
          replace S := S.set 2 1 (.slice py ly Ky) rfl
          refine iv5 H nm nz no ny HH ?_; clear nm nz no ny HH H; intro nm nz no ny HH
          refine ho hKK trivial fun hS => ?_
          generalize ((w7.setCell ⟨w3.heap.size, 0, none⟩ (.bool (negB z1))).setCell ⟨w3.heap.size, 1, none⟩ (.slice py ly Ky)) = w8 at S nm nz no ny HH hS ⊢
          clear hKK KK
          refine rd 7 fun KK hKK => ?_
          go_simp
          refine ho hKK hS fun hS => ?_
          clear hKK KK
          refine wpAnyH_done (by kernel_rfl) ?_ _
          go_wp2_with fail
          go_meet
          case rel => exact ⟨py, ly, Ky, rfl, S, ny, HH⟩
        ·
          go_simp; clear hS
          refine S.cl (wof_any 1 _ (by decide) (by decide)) ?_; clear S; rintro e w9 ⟨_, rfl, po, lo, Ko, rfl, no⟩ S H
          refine iv3 H nm nz HH ?_; clear nm nz HH H; intro nm nz HH
          go_wp2_with fail
          refine ho hKK trivial fun hS => ?_
          clear hKK KK
          refine rd 0 fun KK hKK => ?_
          have c2_ := S.c2 2 rfl; go_simp; clear c2_
          refine ho hKK hS fun hS => ?_
          clear hKK KK
          refine rd 2 fun KK hKK => ?_
          go_simp; clear hS
          refine S.cl (wadd_to ⟨_, _, _, rfl, nz⟩ ⟨_, _, _, rfl, no⟩ HZ.out.2.2.2.2.1 (lt_maxN (by decide)) z1 HU.out HZ.out.2.2.2.2.2) ?_; clear S; rintro e w10 ⟨_, rfl, py, ly, Ky, rfl, ny⟩ S H
          refine iv4 H nm nz no HH ?_; clear nm nz no HH H; intro nm nz no HH
          go_wp2_with fail
          refine ho hKK trivial fun hS => ?_
          clear hKK KK
          refine tk 3 hS ?_
          refine tk 4 hS ?_
          refine tk 5 hS ?_
          refine rd 6 fun KK hKK => ?_
          have c0 := S.c 2 0 rfl rfl; have f0 := S.f 2 0 rfl; have c1 := S.c 2 1 rfl rfl; have f1 := S.f 2 1 rfl; go_simp; clear hS c0 f0 c1 f1
          have H := S.hset 2 0 (.bool (negB z1)) rfl rfl (by intro q n e; cases e)
          replace S := S.set 2 0 (.bool (negB z1)) rfl
          refine iv5 H nm nz no ny HH ?_; clear nm nz no ny HH H; intro nm nz no ny HH
          have H := S.hset 2 1 (.slice py ly Ky) rfl rfl (by intro q n e; cases e)
          replace S := S.set 2 1 (.slice py ly Ky) rfl
          refine iv5 H nm nz no ny HH ?_; clear nm nz no ny HH H; intro nm nz no ny HH
          refine ho hKK trivial fun hS => ?_
          generalize ((w10.setCell ⟨w3.heap.size, 0, none⟩ (.bool (negB z1))).setCell ⟨w3.heap.size, 1, none⟩ (.slice py ly Ky)) = w11 at S nm nz no ny HH hS ⊢
          clear hKK KK
          refine rd 7 fun KK hKK => ?_
          go_simp
          refine ho hKK hS fun hS => ?_
          clear hKK KK
          refine wpAnyH_done (by kernel_rfl) ?_ _
          go_wp2_with fail
          go_meet
          case rel => exact ⟨py, ly, Ky, rfl, S, ny, HH⟩
      case rest =>
        obtain ⟨py, ly, Ky, rfl, S, ny, HH⟩ := hcut
        obtain ⟨w12, rfl⟩ : ∃ W : World, W = wc := ⟨_, rfl⟩
        replace nm := nm.hold HH; replace nz := nz.hold HH; clear HH; have c0_ := S.c3 0 rfl; have c1_ := S.c3 1 rfl; have c2_ := S.c2 2 rfl; go_wp2_with fail; clear c0_ c1_ c2_
        refine S.cl (dtimes_any (HD.out.1.below S.below) ⟨_, _, _, rfl, ny⟩ HZ.out.2.1 HD.out.2.2.2 y HZ.out.2.2.1) ?_; clear S; rintro e w13 ⟨_, rfl, b3, p3, l3, K3, m3, e3, rfl, h3, n3, d3⟩ S H
        refine iv3 H nm nz ny ?_; clear nm nz ny; intro nm nz ny
        clear H; have c0_ := S.c3 0 rfl; have c1_ := S.c3 1 rfl; have c2_ := S.c2 2 rfl
        obtain ⟨f1_0, f1_1, f1_2⟩ := S.f3 1 rfl
        have HP := S.put3 1 (.bool b3) (.slice p3 l3 K3) (.int .i64 e3) rfl rfl; have H := HP.2; replace S := HP.1; clear HP
        refine iw4 H nm nz ny n3 ?_; clear nm nz ny n3; intro nm nz ny n3
        clear H; go_wp2_with fail; obtain ⟨d1_0, d1_1, d1_2⟩ := S.c3 1 rfl
        exact bodyPost_ret (v := .tuple #[.agg #[.bool b3, .slice p3 l3 K3, .int .i64 e3], .int .i64 0]) (by simp [results, Tryz.f70, go_sem, d1_0, d1_1, d1_2]) rfl (⟨⟨_, rfl, b3, p3, l3, K3, m3, e3, rfl, h3, n3, d3⟩, S.below⟩)
    | false =>
      have HU := Lib.hid (show z = z1 by rw [← hz1, ← HZ.out.1]; unfold rndI; rw [if_neg (by decide), Int.add_zero])
      clear hz1
      have S := ((St.start w).alloc 27 [.bool b, .slice p l K, .int .i64 e] (w.heap.size)).alloc 27 [.bool false, .slice none 0 0, .int .i64 0] (w.heap.size + 1)
      try simp only [List.cons_append, List.nil_append] at S
      replace nm := nm.hold S.hold
      have c0_ := S.c3 0 rfl; have c1_ := S.c3 1 rfl
      go_enter Tryz.func70, Tryz.ntmps70
      go_wp2_with fail; clear c0_ c1_
      refine S.cl (bits_in n _ HN.out.1 HN.out.2) ?_; clear S; rintro e w1 rfl S H
      replace nm := nm.hold H; clear H; have c0_ := S.c3 0 rfl; have c1_ := S.c3 1 rfl; go_wp2_with fail; clear c0_ c1_
      refine S.cl (bits_nat nm HD.out.2.2.1 HD.out.2.1) ?_; clear S; rintro e w2 rfl S H
      replace nm := nm.hold H; clear H; have c0_ := S.c3 0 rfl; have c1_ := S.c3 1 rfl; clear c0_ c1_; have c0_ := S.c3 0 rfl; have c1_ := S.c3 1 rfl; go_wp2_with fail; clear c0_ c1_
      refine S.cl (wright_any (HD.out.1.below S.below) ⟨_, _, _, by rw [hb.out], nm⟩ HD.out.2.2.1 v HZ.out.2.2.2.1 z HZ.out.1) ?_; clear S; rintro e w3 ⟨_, rfl, pz, lz, Kz, rfl, nz⟩ S H
      replace nm := nm.hold H; clear H; have c0_ := S.c3 0 rfl; have c1_ := S.c3 1 rfl
      have H := S.hnew 25 [.bool (negB z), .slice pz lz Kz]
      replace S := S.al 25 [.bool (negB z), .slice pz lz Kz] (w3.heap.size)
      replace nm := nm.hold H; replace nz := nz.hold H
      clear H; clear c0_ c1_; have c0_ := S.c3 0 rfl; have c1_ := S.c3 1 rfl; have c2_ := S.c2 2 rfl; go_wp2_with fail; clear c0_ c1_ c2_
      refine S.cl (dtimes_any (HD.out.1.below S.below) ⟨_, _, _, rfl, nz⟩ (by rw [HU.out]; exact HZ.out.2.1) HD.out.2.2.2 y (by rw [HU.out]; exact HZ.out.2.2.1)) ?_; clear S; rintro e w4 ⟨_, rfl, b3, p3, l3, K3, m3, e3, rfl, h3, n3, d3⟩ S H
      replace nm := nm.hold H; replace nz := nz.hold H
      clear H; have c0_ := S.c3 0 rfl; have c1_ := S.c3 1 rfl; have c2_ := S.c2 2 rfl
      obtain ⟨f1_0, f1_1, f1_2⟩ := S.f3 1 rfl
      have HP := S.put3 1 (.bool b3) (.slice p3 l3 K3) (.int .i64 e3) rfl rfl; have H := HP.2; replace S := HP.1; clear HP
      refine iw3 H nm nz n3 ?_; clear nm nz n3; intro nm nz n3
      clear H; go_wp2_with fail; obtain ⟨d1_0, d1_1, d1_2⟩ := S.c3 1 rfl
      exact bodyPost_ret (v := .tuple #[.agg #[.bool b3, .slice p3 l3 K3, .int .i64 e3], .int .i64 0]) (by simp [results, Tryz.f70, go_sem, d1_0, d1_1, d1_2]) rfl (⟨⟨_, rfl, b3, p3, l3, K3, m3, e3, rfl, h3, n3, d3⟩, S.below⟩)
def divI (n d : Int) (up : Bool) : Int := if up = true ∧ 0 < n % d then n / d + 1 else n / d
set_option maxRecDepth 100000 in
set_option maxHeartbeats 8000000 in
theorem divided_pos {va vb : Value} {n d : Int} {w : World} (ha : IsInt w va n) (hb : IsInt w vb d) (hn : n.natAbs < maxN) (hd : d.natAbs < maxN) (s : Nat) (hs : s ≤ 100000) (N D : Int) (hN : n * 2 ^ s = N) (hD : d = D) (hfit : n.natAbs * 2 ^ s < maxN) (hNm : N.natAbs < maxN) (hDm : D.natAbs < maxN) (hD0 : 0 < D) (up : Bool) (z : Int) (hz : divI N D up = z) (hzm : z.natAbs < maxN) :
    Calls Tryz.prog 153 #[va, vb, .int .i64 (s : Int), .bool up] w fun ev w' => (∃ u, ev = .returned (.tuple #[u, .int .i64 0]) ∧ IsInt w' u z) ∧ Below w.heap.size w w' := by
  obtain ⟨p1, l1, K1, rfl, n1⟩ := ha
  obtain ⟨p2, l2, K2, rfl, n2⟩ := hb
  obtain ⟨b1, hb1⟩ : ∃ b1, negB n = b1 := ⟨_, rfl⟩
  obtain ⟨b2, hb2⟩ : ∃ b2, negB d = b2 := ⟨_, rfl⟩
  rw [hb1, hb2]
  have hsI : ¬ (s : Int) < 0 := by omega
  obtain ⟨q, hq⟩ : ∃ q, N / D = q := ⟨_, rfl⟩
  obtain ⟨r, hr⟩ : ∃ r, N % D = r := ⟨_, rfl⟩
  have hr0 : 0 ≤ r := by rw [← hr]; exact Int.emod_nonneg N (by omega)
  have hqm : q.natAbs < maxN := by rw [← hq]; exact Nat.lt_of_le_of_lt (Int.natAbs_ediv_le_natAbs _ _) hNm
  have hrm : r.natAbs < maxN := by have := Int.emod_lt_of_pos N hD0; omega
  have hzq : z = if up = true ∧ 0 < r then q + 1 else q := by rw [← hz]; unfold divI; rw [hq, hr]
  have HD := Lib.hid (And.intro hn (And.intro hd (And.intro (show s ≤ 9223372036854775807 by omega) (And.intro hN (And.intro hD (And.intro hfit (And.intro hb1 hb2)))))))
  have HQ := Lib.hid (And.intro hq (And.intro hr (And.intro hqm (And.intro hrm (And.intro hzm (And.intro hNm (And.intro hDm (show D ≠ 0 by omega))))))))
  clear hn hd hs hN hD hfit hb1 hb2 hq hr hqm hrm hzm hNm hDm hD0 hz
  obtain ⟨g, hg⟩ : ∃ g, r.sign = g := ⟨_, rfl⟩
  have HG := Lib.hid hg
  cases up with
  | false =>
    have HZ : z = q := by rw [hzq]; simp
    clear hzq hg
    have S := (((St.start w).alloc 25 [.bool b1, .slice p1 l1 K1] (w.heap.size)).alloc 25 [.bool b2, .slice p2 l2 K2] (w.heap.size + 1)).alloc 25 [.bool false, .slice none 0 0] (w.heap.size + 1 + 1)
    try simp only [List.cons_append, List.nil_append] at S
    replace n1 := n1.hold S.hold; replace n2 := n2.hold S.hold
    have c0_ := S.c2 0 rfl; have c1_ := S.c2 1 rfl; have c2_ := S.c2 2 rfl
    go_enter Tryz.func153, Tryz.ntmps153
    go_wp2_with fail; clear c0_ c1_ c2_
    refine S.cl (wleft_any ⟨_, _, _, by rw [HD.out.2.2.2.2.2.2.1], n1⟩ HD.out.1 s HD.out.2.2.1 HD.out.2.2.2.2.2.1 N HD.out.2.2.2.1) ?_; clear S; rintro e w1 ⟨_, rfl, pN, lN, KN, rfl, nN⟩ S H
    replace n1 := n1.hold H; replace n2 := n2.hold H
    clear H; have c0_ := S.c2 0 rfl; have c1_ := S.c2 1 rfl; have c2_ := S.c2 2 rfl; have f0_0 := S.f 0 0 rfl
    have H := S.hset 0 0 (.bool (negB N)) rfl rfl (by intro q n e; cases e)
    replace S := S.set 0 0 (.bool (negB N)) rfl
    refine iv3 H n1 n2 nN ?_; clear n1 n2 nN; intro n1 n2 nN
    clear H; have f0_1 := S.f 0 1 rfl
    have H := S.hset 0 1 (.slice pN lN KN) rfl rfl (by intro q n e; cases e)
    replace S := S.set 0 1 (.slice pN lN KN) rfl
    refine iv3 H n1 n2 nN ?_; clear n1 n2 nN; intro n1 n2 nN
    clear H; have c0_ := S.c2 0 rfl; have c1_ := S.c2 1 rfl; go_wp2_with fail; clear c0_ c1_ c2_ f0_0 f0_1; clear c0_ c1_
    refine S.cl (wdiv_to ⟨_, _, _, rfl, nN⟩ ⟨_, _, _, by rw [← HD.out.2.2.2.2.1, HD.out.2.2.2.2.2.2.2], by rw [← HD.out.2.2.2.2.1]; exact n2⟩ HQ.out.2.2.2.2.2.1 HQ.out.2.2.2.2.2.2.1 q r HQ.out.2.2.2.2.2.2.2 HQ.out.1 HQ.out.2.1) ?_; clear S; rintro e w2 ⟨_, _, rfl, ⟨pq, lq, Kq, rfl, nq⟩, ⟨pr, lr, Kr, rfl, nr⟩⟩ S H
    refine iv3 H n1 n2 nN ?_; clear n1 n2 nN; intro n1 n2 nN
    clear H; have c0_ := S.c2 0 rfl; have c1_ := S.c2 1 rfl; have c2_ := S.c2 2 rfl
    have H := S.hnew 25 [.bool (negB q), .slice pq lq Kq]
    replace S := S.al 25 [.bool (negB q), .slice pq lq Kq] (w2.heap.size)
    refine iv5 H n1 n2 nN nq nr ?_; clear n1 n2 nN nq nr; intro n1 n2 nN nq nr
    clear H
    have H := S.hnew 25 [.bool (negB r), .slice pr lr Kr]
    replace S := S.al 25 [.bool (negB r), .slice pr lr Kr] (w2.heap.size + 1)
    refine iv5 H n1 n2 nN nq nr ?_; clear n1 n2 nN nq nr; intro n1 n2 nN nq nr
    clear H; clear c0_ c1_ c2_; have c0_ := S.c2 0 rfl; have c1_ := S.c2 1 rfl; have c2_ := S.c2 2 rfl; have c3_ := S.c2 3 rfl; have c4_ := S.c2 4 rfl
    subst HZ
    have f2_0 := S.f 2 0 rfl
    have H := S.hset 2 0 (.bool (negB z)) rfl rfl (by intro q n e; cases e)
    replace S := S.set 2 0 (.bool (negB z)) rfl
    refine iv5 H n1 n2 nN nq nr ?_; clear n1 n2 nN nq nr; intro n1 n2 nN nq nr
    clear H; have f2_1 := S.f 2 1 rfl
    have H := S.hset 2 1 (.slice pq lq Kq) rfl rfl (by intro q n e; cases e)
    replace S := S.set 2 1 (.slice pq lq Kq) rfl
    refine iv5 H n1 n2 nN nq nr ?_; clear n1 n2 nN nq nr; intro n1 n2 nN nq nr
    clear H; go_wp2_with fail; have d2_0 := S.c 2 0 rfl rfl; have d2_1 := S.c 2 1 rfl rfl
    exact bodyPost_ret (v := .tuple #[.agg #[.bool (negB z), .slice pq lq Kq], .int .i64 0]) (by simp [results, Tryz.f153, go_sem, d2_0, d2_1]) rfl (⟨⟨_, rfl, pq, lq, Kq, rfl, nq⟩, S.below⟩)
  | true =>
    by_cases h0 : 0 < r
    · have HZ := Lib.hid (show q + 1 = z by rw [hzq, if_pos ⟨rfl, h0⟩])
      have hg1 : g = 1 := by rw [← hg]; exact Int.sign_eq_one_of_pos h0
      subst hg1
      clear hzq hg h0 hr0
      have S := (((St.start w).alloc 25 [.bool b1, .slice p1 l1 K1] (w.heap.size)).alloc 25 [.bool b2, .slice p2 l2 K2] (w.heap.size + 1)).alloc 25 [.bool false, .slice none 0 0] (w.heap.size + 1 + 1)
      try simp only [List.cons_append, List.nil_append] at S
      replace n1 := n1.hold S.hold; replace n2 := n2.hold S.hold
      have c0_ := S.c2 0 rfl; have c1_ := S.c2 1 rfl; have c2_ := S.c2 2 rfl
      go_enter Tryz.func153, Tryz.ntmps153
      go_wp2_with fail; clear c0_ c1_ c2_
      refine S.cl (wleft_any ⟨_, _, _, by rw [HD.out.2.2.2.2.2.2.1], n1⟩ HD.out.1 s HD.out.2.2.1 HD.out.2.2.2.2.2.1 N HD.out.2.2.2.1) ?_; clear S; rintro e w1 ⟨_, rfl, pN, lN, KN, rfl, nN⟩ S H
      replace n1 := n1.hold H; replace n2 := n2.hold H
      clear H; have c0_ := S.c2 0 rfl; have c1_ := S.c2 1 rfl; have c2_ := S.c2 2 rfl; have f0_0 := S.f 0 0 rfl
      have H := S.hset 0 0 (.bool (negB N)) rfl rfl (by intro q n e; cases e)
      replace S := S.set 0 0 (.bool (negB N)) rfl
      refine iv3 H n1 n2 nN ?_; clear n1 n2 nN; intro n1 n2 nN
      clear H; have f0_1 := S.f 0 1 rfl
      have H := S.hset 0 1 (.slice pN lN KN) rfl rfl (by intro q n e; cases e)
      replace S := S.set 0 1 (.slice pN lN KN) rfl
      refine iv3 H n1 n2 nN ?_; clear n1 n2 nN; intro n1 n2 nN
      clear H; have c0_ := S.c2 0 rfl; have c1_ := S.c2 1 rfl; go_wp2_with fail; clear c0_ c1_ c2_ f0_0 f0_1; clear c0_ c1_
      refine S.cl (wdiv_to ⟨_, _, _, rfl, nN⟩ ⟨_, _, _, by rw [← HD.out.2.2.2.2.1, HD.out.2.2.2.2.2.2.2], by rw [← HD.out.2.2.2.2.1]; exact n2⟩ HQ.out.2.2.2.2.2.1 HQ.out.2.2.2.2.2.2.1 q r HQ.out.2.2.2.2.2.2.2 HQ.out.1 HQ.out.2.1) ?_; clear S; rintro e w2 ⟨_, _, rfl, ⟨pq, lq, Kq, rfl, nq⟩, ⟨pr, lr, Kr, rfl, nr⟩⟩ S H
      refine iv3 H n1 n2 nN ?_; clear n1 n2 nN; intro n1 n2 nN
      clear H; have c0_ := S.c2 0 rfl; have c1_ := S.c2 1 rfl; have c2_ := S.c2 2 rfl
      have H := S.hnew 25 [.bool (negB q), .slice pq lq Kq]
      replace S := S.al 25 [.bool (negB q), .slice pq lq Kq] (w2.heap.size)
      refine iv5 H n1 n2 nN nq nr ?_; clear n1 n2 nN nq nr; intro n1 n2 nN nq nr
      clear H
      have H := S.hnew 25 [.bool (negB r), .slice pr lr Kr]
      replace S := S.al 25 [.bool (negB r), .slice pr lr Kr] (w2.heap.size + 1)
      refine iv5 H n1 n2 nN nq nr ?_; clear n1 n2 nN nq nr; intro n1 n2 nN nq nr
      clear H; clear c0_ c1_ c2_; have c0_ := S.c2 0 rfl; have c1_ := S.c2 1 rfl; have c2_ := S.c2 2 rfl; have c3_ := S.c2 3 rfl; have c4_ := S.c2 4 rfl; go_wp2_with fail; clear c0_ c1_ c2_ c3_ c4_
      refine S.cl (wsign_any ⟨_, _, _, rfl, nr⟩ HQ.out.2.2.2.1 HG.out) ?_; clear S; rintro e w3 rfl S H
      refine iv5 H n1 n2 nN nq nr ?_; clear n1 n2 nN nq nr; intro n1 n2 nN nq nr
      clear H; have c0_ := S.c2 0 rfl; have c1_ := S.c2 1 rfl; have c2_ := S.c2 2 rfl; have c3_ := S.c2 3 rfl; have c4_ := S.c2 4 rfl
      go_upto_region 9 with fail
      clear c0_ c1_ c2_ c3_ c4_
      go_cut [10] (fun s10 wx => ∃ py ly Ky, s10 = .int .i64 0 ∧ St w wx [(w.heap.size, 25, [.bool (negB N), .slice pN lN KN]), (w.heap.size + 1, 25, [.bool b2, .slice p2 l2 K2]), (w.heap.size + 1 + 1, 25, [.bool false, .slice none 0 0]), (w2.heap.size, 25, [.bool (negB z), .slice py ly Ky]), (w2.heap.size + 1, 25, [.bool (negB r), .slice pr lr Kr])] ∧ IsNat wx (.slice py ly Ky) z.natAbs ∧ Hold w3 wx)
      case first =>
        have HH := Hold.drew w3
        refine iv5 HH n1 n2 nN nq nr ?_; clear n1 n2 nN nq nr; intro n1 n2 nN nq nr
        replace S := S.drew
        refine wp_region_held_drew (S := fun W => True) (by kernel_rfl) trivial (fun hS => ?_)
        generalize w3.drew = w4 at S n1 n2 nN nq nr HH hS ⊢
        refine wpAnyH_ready (rs := [0, 1]) (by kernel_rfl) (by simp) (AllReadyH.cons (opOf rfl) (fun KK hKK => ?_) (AllReadyH.cons (opOf rfl) (fun KK hKK => ?_) AllReadyH.nil))
        ·
          have c3_ := S.c2 3 rfl; go_simp; clear c3_
          refine ho hKK hS fun hS => ?_
          clear hKK KK
          refine rd 1 fun KK hKK => ?_
          go_simp; clear hS
          refine S.cl (wof_any 1 _ (by decide) (by decide)) ?_; clear S; rintro e w5 ⟨_, rfl, po, lo, Ko, rfl, no⟩ S H
          refine iv6 H n1 n2 nN nq nr HH ?_; clear n1 n2 nN nq nr HH H; intro n1 n2 nN nq nr HH
          go_wp2_with fail
          refine ho hKK trivial fun hS => ?_
          clear hKK KK
          refine rd 2 fun KK hKK => ?_
          go_simp; clear hS
          refine S.cl (wadd_to ⟨_, _, _, rfl, nq⟩ ⟨_, _, _, rfl, no⟩ HQ.out.2.2.1 (lt_maxN (by decide)) z HZ.out HQ.out.2.2.2.2.1) ?_; clear S; rintro e w6 ⟨_, rfl, py, ly, Ky, rfl, ny⟩ S H
          refine iv7 H n1 n2 nN nq nr no HH ?_; clear n1 n2 nN nq nr no HH H; intro n1 n2 nN nq nr no HH
          go_wp2_with fail
          refine ho hKK trivial fun hS => ?_
          clear hKK KK
          refine tk 3 hS ?_
          refine tk 4 hS ?_
          refine tk 5 hS ?_
          refine rd 6 fun KK hKK => ?_
          have c0 := S.c 3 0 rfl rfl; have f0 := S.f 3 0 rfl; have c1 := S.c 3 1 rfl rfl; have f1 := S.f 3 1 rfl; go_simp; clear hS c0 f0 c1 f1
          have H := S.hset 3 0 (.bool (negB z)) rfl rfl (by intro q n e; cases e)
          replace S := S.set 3 0 (.bool (negB z)) rfl
          refine iv8 H n1 n2 nN nq nr no ny HH ?_; clear n1 n2 nN nq nr no ny HH H; intro n1 n2 nN nq nr no ny HH
          have H := S.hset 3 1 (.slice py ly Ky) rfl rfl (by intro q n e; cases e)
          replace S := S.set 3 1 (.slice py ly Ky) rfl
          refine iv8 H n1 n2 nN nq nr no ny HH ?_; clear n1 n2 nN nq nr no ny HH H; intro n1 n2 nN nq nr no ny HH
          refine ho hKK trivial fun hS => ?_
          generalize ((w6.setCell ⟨w2.heap.size, 0, none⟩ (.bool (negB z))).setCell ⟨w2.heap.size, 1, none⟩ (.slice py ly Ky)) = w7 at S n1 n2 nN nq nr no ny HH hS ⊢
          clear hKK KK
          refine rd 7 fun KK hKK => ?_
          go_simp
          refine ho hKK hS fun hS => ?_
          clear hKK KK
          refine wpAnyH_done (by kernel_rfl) ?_ _
          go_wp2_with fail
          go_meet
          case rel => exact ⟨py, ly, Ky, rfl, S, ny, HH⟩
        ·
          go_simp; clear hS
          refine S.cl (wof_any 1 _ (by decide) (by decide)) ?_; clear S; rintro e w8 ⟨_, rfl, po, lo, Ko, rfl, no⟩ S H
          refine iv6 H n1 n2 nN nq nr HH ?_; clear n1 n2 nN nq nr HH H; intro n1 n2 nN nq nr HH
          go_wp2_with fail
          refine ho hKK trivial fun hS => ?_
          clear hKK KK
          refine rd 0 fun KK hKK => ?_
          have c3_ := S.c2 3 rfl; go_simp; clear c3_
          refine ho hKK hS fun hS => ?_
          clear hKK KK
          refine rd 2 fun KK hKK => ?_
          go_simp; clear hS
          refine S.cl (wadd_to ⟨_, _, _, rfl, nq⟩ ⟨_, _, _, rfl, no⟩ HQ.out.2.2.1 (lt_maxN (by decide)) z HZ.out HQ.out.2.2.2.2.1) ?_; clear S; rintro e w9 ⟨_, rfl, py, ly, Ky, rfl, ny⟩ S H
          refine iv7 H n1 n2 nN nq nr no HH ?_; clear n1 n2 nN nq nr no HH H; intro n1 n2 nN nq nr no HH
          go_wp2_with fail
          refine ho hKK trivial fun hS => ?_
          clear hKK KK
          refine tk 3 hS ?_
          refine tk 4 hS ?_
          refine tk 5 hS ?_
          refine rd 6 fun KK hKK => ?_
          have c0 := S.c 3 0 rfl rfl; have f0 := S.f 3 0 rfl; have c1 := S.c 3 1 rfl rfl; have f1 := S.f 3 1 rfl; go_simp; clear hS c0 f0 c1 f1
          have H := S.hset 3 0 (.bool (negB z)) rfl rfl (by intro q n e; cases e)
          replace S := S.set 3 0 (.bool (negB z)) rfl
          refine iv8 H n1 n2 nN nq nr no ny HH ?_; clear n1 n2 nN nq nr no ny HH H; intro n1 n2 nN nq nr no ny HH
          have H := S.hset 3 1 (.slice py ly Ky) rfl rfl (by intro q n e; cases e)
          replace S := S.set 3 1 (.slice py ly Ky) rfl
          refine iv8 H n1 n2 nN nq nr no ny HH ?_; clear n1 n2 nN nq nr no ny HH H; intro n1 n2 nN nq nr no ny HH
          refine ho hKK trivial fun hS => ?_
          generalize ((w9.setCell ⟨w2.heap.size, 0, none⟩ (.bool (negB z))).setCell ⟨w2.heap.size, 1, none⟩ (.slice py ly Ky)) = w10 at S n1 n2 nN nq nr no ny HH hS ⊢
          clear hKK KK
          refine rd 7 fun KK hKK => ?_
          go_simp
          refine ho hKK hS fun hS => ?_
          clear hKK KK
          refine wpAnyH_done (by kernel_rfl) ?_ _
          go_wp2_with fail
          go_meet
          case rel => exact ⟨py, ly, Ky, rfl, S, ny, HH⟩
      case rest =>
        obtain ⟨py, ly, Ky, rfl, S, ny, HH⟩ := hcut
        obtain ⟨w11, rfl⟩ : ∃ W : World, W = wc := ⟨_, rfl⟩
        refine iv5 HH n1 n2 nN nq nr ?_; clear n1 n2 nN nq nr HH; intro n1 n2 nN nq nr; have c0_ := S.c2 0 rfl; have c1_ := S.c2 1 rfl; have c2_ := S.c2 2 rfl; have c3_ := S.c2 3 rfl; have c4_ := S.c2 4 rfl; have f2_0 := S.f 2 0 rfl
        have H := S.hset 2 0 (.bool (negB z)) rfl rfl (by intro q n e; cases e)
        replace S := S.set 2 0 (.bool (negB z)) rfl
        refine iv6 H n1 n2 nN nq nr ny ?_; clear n1 n2 nN nq nr ny; intro n1 n2 nN nq nr ny
        clear H; have f2_1 := S.f 2 1 rfl
        have H := S.hset 2 1 (.slice py ly Ky) rfl rfl (by intro q n e; cases e)
        replace S := S.set 2 1 (.slice py ly Ky) rfl
        refine iv6 H n1 n2 nN nq nr ny ?_; clear n1 n2 nN nq nr ny; intro n1 n2 nN nq nr ny
        clear H; go_wp2_with fail; have d2_0 := S.c 2 0 rfl rfl; have d2_1 := S.c 2 1 rfl rfl
        exact bodyPost_ret (v := .tuple #[.agg #[.bool (negB z), .slice py ly Ky], .int .i64 0]) (by simp [results, Tryz.f153, go_sem, d2_0, d2_1]) rfl (⟨⟨_, rfl, py, ly, Ky, rfl, ny⟩, S.below⟩)
    · have HZ : z = q := by rw [hzq, if_neg (by rintro ⟨_, h⟩; exact h0 h)]
      have hg1 : g = 0 := by rw [← hg, show r = 0 by omega]; rfl
      subst hg1
      clear hzq hg h0 hr0
      have S := (((St.start w).alloc 25 [.bool b1, .slice p1 l1 K1] (w.heap.size)).alloc 25 [.bool b2, .slice p2 l2 K2] (w.heap.size + 1)).alloc 25 [.bool false, .slice none 0 0] (w.heap.size + 1 + 1)
      try simp only [List.cons_append, List.nil_append] at S
      replace n1 := n1.hold S.hold; replace n2 := n2.hold S.hold
      have c0_ := S.c2 0 rfl; have c1_ := S.c2 1 rfl; have c2_ := S.c2 2 rfl
      go_enter Tryz.func153, Tryz.ntmps153
      go_wp2_with fail; clear c0_ c1_ c2_
      refine S.cl (wleft_any ⟨_, _, _, by rw [HD.out.2.2.2.2.2.2.1], n1⟩ HD.out.1 s HD.out.2.2.1 HD.out.2.2.2.2.2.1 N HD.out.2.2.2.1) ?_; clear S; rintro e w1 ⟨_, rfl, pN, lN, KN, rfl, nN⟩ S H
      replace n1 := n1.hold H; replace n2 := n2.hold H
      clear H; have c0_ := S.c2 0 rfl; have c1_ := S.c2 1 rfl; have c2_ := S.c2 2 rfl; have f0_0 := S.f 0 0 rfl
      have H := S.hset 0 0 (.bool (negB N)) rfl rfl (by intro q n e; cases e)
      replace S := S.set 0 0 (.bool (negB N)) rfl
      refine iv3 H n1 n2 nN ?_; clear n1 n2 nN; intro n1 n2 nN
      clear H; have f0_1 := S.f 0 1 rfl
      have H := S.hset 0 1 (.slice pN lN KN) rfl rfl (by intro q n e; cases e)
      replace S := S.set 0 1 (.slice pN lN KN) rfl
      refine iv3 H n1 n2 nN ?_; clear n1 n2 nN; intro n1 n2 nN
      clear H; have c0_ := S.c2 0 rfl; have c1_ := S.c2 1 rfl; go_wp2_with fail; clear c0_ c1_ c2_ f0_0 f0_1; clear c0_ c1_
      refine S.cl (wdiv_to ⟨_, _, _, rfl, nN⟩ ⟨_, _, _, by rw [← HD.out.2.2.2.2.1, HD.out.2.2.2.2.2.2.2], by rw [← HD.out.2.2.2.2.1]; exact n2⟩ HQ.out.2.2.2.2.2.1 HQ.out.2.2.2.2.2.2.1 q r HQ.out.2.2.2.2.2.2.2 HQ.out.1 HQ.out.2.1) ?_; clear S; rintro e w2 ⟨_, _, rfl, ⟨pq, lq, Kq, rfl, nq⟩, ⟨pr, lr, Kr, rfl, nr⟩⟩ S H
      refine iv3 H n1 n2 nN ?_; clear n1 n2 nN; intro n1 n2 nN
      clear H; have c0_ := S.c2 0 rfl; have c1_ := S.c2 1 rfl; have c2_ := S.c2 2 rfl
      have H := S.hnew 25 [.bool (negB q), .slice pq lq Kq]
      replace S := S.al 25 [.bool (negB q), .slice pq lq Kq] (w2.heap.size)
      refine iv5 H n1 n2 nN nq nr ?_; clear n1 n2 nN nq nr; intro n1 n2 nN nq nr
      clear H
      have H := S.hnew 25 [.bool (negB r), .slice pr lr Kr]
      replace S := S.al 25 [.bool (negB r), .slice pr lr Kr] (w2.heap.size + 1)
      refine iv5 H n1 n2 nN nq nr ?_; clear n1 n2 nN nq nr; intro n1 n2 nN nq nr
      clear H; clear c0_ c1_ c2_; have c0_ := S.c2 0 rfl; have c1_ := S.c2 1 rfl; have c2_ := S.c2 2 rfl; have c3_ := S.c2 3 rfl; have c4_ := S.c2 4 rfl; go_wp2_with fail; clear c0_ c1_ c2_ c3_ c4_
      refine S.cl (wsign_any ⟨_, _, _, rfl, nr⟩ HQ.out.2.2.2.1 HG.out) ?_; clear S; rintro e w3 rfl S H
      refine iv5 H n1 n2 nN nq nr ?_; clear n1 n2 nN nq nr; intro n1 n2 nN nq nr
      clear H; have c0_ := S.c2 0 rfl; have c1_ := S.c2 1 rfl; have c2_ := S.c2 2 rfl; have c3_ := S.c2 3 rfl; have c4_ := S.c2 4 rfl
      subst HZ
      have f2_0 := S.f 2 0 rfl
      have H := S.hset 2 0 (.bool (negB z)) rfl rfl (by intro q n e; cases e)
      replace S := S.set 2 0 (.bool (negB z)) rfl
      refine iv5 H n1 n2 nN nq nr ?_; clear n1 n2 nN nq nr; intro n1 n2 nN nq nr
      clear H; have f2_1 := S.f 2 1 rfl
      have H := S.hset 2 1 (.slice pq lq Kq) rfl rfl (by intro q n e; cases e)
      replace S := S.set 2 1 (.slice pq lq Kq) rfl
      refine iv5 H n1 n2 nN nq nr ?_; clear n1 n2 nN nq nr; intro n1 n2 nN nq nr
      clear H; go_wp2_with fail; have d2_0 := S.c 2 0 rfl rfl; have d2_1 := S.c 2 1 rfl rfl
      exact bodyPost_ret (v := .tuple #[.agg #[.bool (negB z), .slice pq lq Kq], .int .i64 0]) (by simp [results, Tryz.f153, go_sem, d2_0, d2_1]) rfl (⟨⟨_, rfl, pq, lq, Kq, rfl, nq⟩, S.below⟩)
set_option maxRecDepth 100000 in
set_option maxHeartbeats 8000000 in
theorem divided_neg {va vb : Value} {n d : Int} {w : World} (ha : IsInt w va n) (hb : IsInt w vb d) (hn : n.natAbs < maxN) (hd : d.natAbs < maxN) (s : Nat) (hs : s ≤ 100000) (hs1 : 1 ≤ s) (N D : Int) (hN : n = N) (hD : d * 2 ^ s = D) (hfit : d.natAbs * 2 ^ s < maxN) (hNm : N.natAbs < maxN) (hDm : D.natAbs < maxN) (hD0 : 0 < D) (up : Bool) (z : Int) (hz : divI N D up = z) (hzm : z.natAbs < maxN) :
    Calls Tryz.prog 153 #[va, vb, .int .i64 (-(s : Int)), .bool up] w fun ev w' => (∃ u, ev = .returned (.tuple #[u, .int .i64 0]) ∧ IsInt w' u z) ∧ Below w.heap.size w w' := by
  obtain ⟨p1, l1, K1, rfl, n1⟩ := ha
  obtain ⟨p2, l2, K2, rfl, n2⟩ := hb
  obtain ⟨b1, hb1⟩ : ∃ b1, negB n = b1 := ⟨_, rfl⟩
  obtain ⟨b2, hb2⟩ : ∃ b2, negB d = b2 := ⟨_, rfl⟩
  rw [hb1, hb2]
  have hsI : (-(s : Int)) < 0 := by omega
  have hwr : IntKind.i64.wrap (-(-(s : Int))) = (s : Int) := by rw [wrap_int (by omega) (by omega)]; omega
  have hwr2 : IntKind.i64.wrap (s : Int) = (s : Int) := wrap_int (by omega) (by omega)
  obtain ⟨q, hq⟩ : ∃ q, N / D = q := ⟨_, rfl⟩
  obtain ⟨r, hr⟩ : ∃ r, N % D = r := ⟨_, rfl⟩
  have hr0 : 0 ≤ r := by rw [← hr]; exact Int.emod_nonneg N (by omega)
  have hqm : q.natAbs < maxN := by rw [← hq]; exact Nat.lt_of_le_of_lt (Int.natAbs_ediv_le_natAbs _ _) hNm
  have hrm : r.natAbs < maxN := by have := Int.emod_lt_of_pos N hD0; omega
  have hzq : z = if up = true ∧ 0 < r then q + 1 else q := by rw [← hz]; unfold divI; rw [hq, hr]
  have HD := Lib.hid (And.intro hn (And.intro hd (And.intro (show s ≤ 9223372036854775807 by omega) (And.intro hN (And.intro hD (And.intro hfit (And.intro hb1 hb2)))))))
  have HQ := Lib.hid (And.intro hq (And.intro hr (And.intro hqm (And.intro hrm (And.intro hzm (And.intro hNm (And.intro hDm (show D ≠ 0 by omega))))))))
  clear hn hd hs hN hD hfit hb1 hb2 hq hr hqm hrm hzm hNm hDm hD0 hz hs1
  obtain ⟨g, hg⟩ : ∃ g, r.sign = g := ⟨_, rfl⟩
  have HG := Lib.hid hg
  cases up with
  | false =>
    have HZ : z = q := by rw [hzq]; simp
    clear hzq hg
    have S := (((St.start w).alloc 25 [.bool b1, .slice p1 l1 K1] (w.heap.size)).alloc 25 [.bool b2, .slice p2 l2 K2] (w.heap.size + 1)).alloc 25 [.bool false, .slice none 0 0] (w.heap.size + 1 + 1)
    try simp only [List.cons_append, List.nil_append] at S
    replace n1 := n1.hold S.hold; replace n2 := n2.hold S.hold
    have c0_ := S.c2 0 rfl; have c1_ := S.c2 1 rfl; have c2_ := S.c2 2 rfl
    go_enter Tryz.func153, Tryz.ntmps153
    go_wp2_with fail; clear c0_ c1_ c2_
    refine S.cl (wleft_any ⟨_, _, _, by rw [HD.out.2.2.2.2.2.2.2], n2⟩ HD.out.2.1 s HD.out.2.2.1 HD.out.2.2.2.2.2.1 D HD.out.2.2.2.2.1) ?_; clear S; rintro e w1 ⟨_, rfl, pD, lD, KD, rfl, nD⟩ S H
    replace n1 := n1.hold H; replace n2 := n2.hold H
    clear H; have c0_ := S.c2 0 rfl; have c1_ := S.c2 1 rfl; have c2_ := S.c2 2 rfl; have f1_0 := S.f 1 0 rfl
    have H := S.hset 1 0 (.bool (negB D)) rfl rfl (by intro q n e; cases e)
    replace S := S.set 1 0 (.bool (negB D)) rfl
    refine iv3 H n1 n2 nD ?_; clear n1 n2 nD; intro n1 n2 nD
    clear H; have f1_1 := S.f 1 1 rfl
    have H := S.hset 1 1 (.slice pD lD KD) rfl rfl (by intro q n e; cases e)
    replace S := S.set 1 1 (.slice pD lD KD) rfl
    refine iv3 H n1 n2 nD ?_; clear n1 n2 nD; intro n1 n2 nD
    clear H; have c0_ := S.c2 0 rfl; have c1_ := S.c2 1 rfl; go_wp2_with fail; clear c0_ c1_ c2_ f1_0 f1_1; clear c0_ c1_
    refine S.cl (wdiv_to ⟨_, _, _, by rw [← HD.out.2.2.2.1, HD.out.2.2.2.2.2.2.1], by rw [← HD.out.2.2.2.1]; exact n1⟩ ⟨_, _, _, rfl, nD⟩ HQ.out.2.2.2.2.2.1 HQ.out.2.2.2.2.2.2.1 q r HQ.out.2.2.2.2.2.2.2 HQ.out.1 HQ.out.2.1) ?_; clear S; rintro e w2 ⟨_, _, rfl, ⟨pq, lq, Kq, rfl, nq⟩, ⟨pr, lr, Kr, rfl, nr⟩⟩ S H
    refine iv3 H n1 n2 nD ?_; clear n1 n2 nD; intro n1 n2 nD
    clear H; have c0_ := S.c2 0 rfl; have c1_ := S.c2 1 rfl; have c2_ := S.c2 2 rfl
    have H := S.hnew 25 [.bool (negB q), .slice pq lq Kq]
    replace S := S.al 25 [.bool (negB q), .slice pq lq Kq] (w2.heap.size)
    refine iv5 H n1 n2 nD nq nr ?_; clear n1 n2 nD nq nr; intro n1 n2 nD nq nr
    clear H
    have H := S.hnew 25 [.bool (negB r), .slice pr lr Kr]
    replace S := S.al 25 [.bool (negB r), .slice pr lr Kr] (w2.heap.size + 1)
    refine iv5 H n1 n2 nD nq nr ?_; clear n1 n2 nD nq nr; intro n1 n2 nD nq nr
    clear H; clear c0_ c1_ c2_; have c0_ := S.c2 0 rfl; have c1_ := S.c2 1 rfl; have c2_ := S.c2 2 rfl; have c3_ := S.c2 3 rfl; have c4_ := S.c2 4 rfl
    subst HZ
    have f2_0 := S.f 2 0 rfl
    have H := S.hset 2 0 (.bool (negB z)) rfl rfl (by intro q n e; cases e)
    replace S := S.set 2 0 (.bool (negB z)) rfl
    refine iv5 H n1 n2 nD nq nr ?_; clear n1 n2 nD nq nr; intro n1 n2 nD nq nr
    clear H; have f2_1 := S.f 2 1 rfl
    have H := S.hset 2 1 (.slice pq lq Kq) rfl rfl (by intro q n e; cases e)
    replace S := S.set 2 1 (.slice pq lq Kq) rfl
    refine iv5 H n1 n2 nD nq nr ?_; clear n1 n2 nD nq nr; intro n1 n2 nD nq nr
    clear H; go_wp2_with fail; have d2_0 := S.c 2 0 rfl rfl; have d2_1 := S.c 2 1 rfl rfl
    exact bodyPost_ret (v := .tuple #[.agg #[.bool (negB z), .slice pq lq Kq], .int .i64 0]) (by simp [results, Tryz.f153, go_sem, d2_0, d2_1]) rfl (⟨⟨_, rfl, pq, lq, Kq, rfl, nq⟩, S.below⟩)
  | true =>
    by_cases h0 : 0 < r
    · have HZ := Lib.hid (show q + 1 = z by rw [hzq, if_pos ⟨rfl, h0⟩])
      have hg1 : g = 1 := by rw [← hg]; exact Int.sign_eq_one_of_pos h0
      subst hg1
      clear hzq hg h0 hr0
      have S := (((St.start w).alloc 25 [.bool b1, .slice p1 l1 K1] (w.heap.size)).alloc 25 [.bool b2, .slice p2 l2 K2] (w.heap.size + 1)).alloc 25 [.bool false, .slice none 0 0] (w.heap.size + 1 + 1)
      try simp only [List.cons_append, List.nil_append] at S
      replace n1 := n1.hold S.hold; replace n2 := n2.hold S.hold
      have c0_ := S.c2 0 rfl; have c1_ := S.c2 1 rfl; have c2_ := S.c2 2 rfl
      go_enter Tryz.func153, Tryz.ntmps153
      go_wp2_with fail; clear c0_ c1_ c2_
      refine S.cl (wleft_any ⟨_, _, _, by rw [HD.out.2.2.2.2.2.2.2], n2⟩ HD.out.2.1 s HD.out.2.2.1 HD.out.2.2.2.2.2.1 D HD.out.2.2.2.2.1) ?_; clear S; rintro e w1 ⟨_, rfl, pD, lD, KD, rfl, nD⟩ S H
      replace n1 := n1.hold H; replace n2 := n2.hold H
      clear H; have c0_ := S.c2 0 rfl; have c1_ := S.c2 1 rfl; have c2_ := S.c2 2 rfl; have f1_0 := S.f 1 0 rfl
      have H := S.hset 1 0 (.bool (negB D)) rfl rfl (by intro q n e; cases e)
      replace S := S.set 1 0 (.bool (negB D)) rfl
      refine iv3 H n1 n2 nD ?_; clear n1 n2 nD; intro n1 n2 nD
      clear H; have f1_1 := S.f 1 1 rfl
      have H := S.hset 1 1 (.slice pD lD KD) rfl rfl (by intro q n e; cases e)
      replace S := S.set 1 1 (.slice pD lD KD) rfl
      refine iv3 H n1 n2 nD ?_; clear n1 n2 nD; intro n1 n2 nD
      clear H; have c0_ := S.c2 0 rfl; have c1_ := S.c2 1 rfl; go_wp2_with fail; clear c0_ c1_ c2_ f1_0 f1_1; clear c0_ c1_
      refine S.cl (wdiv_to ⟨_, _, _, by rw [← HD.out.2.2.2.1, HD.out.2.2.2.2.2.2.1], by rw [← HD.out.2.2.2.1]; exact n1⟩ ⟨_, _, _, rfl, nD⟩ HQ.out.2.2.2.2.2.1 HQ.out.2.2.2.2.2.2.1 q r HQ.out.2.2.2.2.2.2.2 HQ.out.1 HQ.out.2.1) ?_; clear S; rintro e w2 ⟨_, _, rfl, ⟨pq, lq, Kq, rfl, nq⟩, ⟨pr, lr, Kr, rfl, nr⟩⟩ S H
      refine iv3 H n1 n2 nD ?_; clear n1 n2 nD; intro n1 n2 nD
      clear H; have c0_ := S.c2 0 rfl; have c1_ := S.c2 1 rfl; have c2_ := S.c2 2 rfl
      have H := S.hnew 25 [.bool (negB q), .slice pq lq Kq]
      replace S := S.al 25 [.bool (negB q), .slice pq lq Kq] (w2.heap.size)
      refine iv5 H n1 n2 nD nq nr ?_; clear n1 n2 nD nq nr; intro n1 n2 nD nq nr
      clear H
      have H := S.hnew 25 [.bool (negB r), .slice pr lr Kr]
      replace S := S.al 25 [.bool (negB r), .slice pr lr Kr] (w2.heap.size + 1)
      refine iv5 H n1 n2 nD nq nr ?_; clear n1 n2 nD nq nr; intro n1 n2 nD nq nr
      clear H; clear c0_ c1_ c2_; have c0_ := S.c2 0 rfl; have c1_ := S.c2 1 rfl; have c2_ := S.c2 2 rfl; have c3_ := S.c2 3 rfl; have c4_ := S.c2 4 rfl; go_wp2_with fail; clear c0_ c1_ c2_ c3_ c4_
      refine S.cl (wsign_any ⟨_, _, _, rfl, nr⟩ HQ.out.2.2.2.1 HG.out) ?_; clear S; rintro e w3 rfl S H
      refine iv5 H n1 n2 nD nq nr ?_; clear n1 n2 nD nq nr; intro n1 n2 nD nq nr
      clear H; have c0_ := S.c2 0 rfl; have c1_ := S.c2 1 rfl; have c2_ := S.c2 2 rfl; have c3_ := S.c2 3 rfl; have c4_ := S.c2 4 rfl
      go_upto_region 9 with fail
      clear c0_ c1_ c2_ c3_ c4_
      go_cut [10] (fun s10 wx => ∃ py ly Ky, s10 = .int .i64 0 ∧ St w wx [(w.heap.size, 25, [.bool b1, .slice p1 l1 K1]), (w.heap.size + 1, 25, [.bool (negB D), .slice pD lD KD]), (w.heap.size + 1 + 1, 25, [.bool false, .slice none 0 0]), (w2.heap.size, 25, [.bool (negB z), .slice py ly Ky]), (w2.heap.size + 1, 25, [.bool (negB r), .slice pr lr Kr])] ∧ IsNat wx (.slice py ly Ky) z.natAbs ∧ Hold w3 wx)
      case first =>
        have HH := Hold.drew w3
        refine iv5 HH n1 n2 nD nq nr ?_; clear n1 n2 nD nq nr; intro n1 n2 nD nq nr
        replace S := S.drew
        refine wp_region_held_drew (S := fun W => True) (by kernel_rfl) trivial (fun hS => ?_)
        generalize w3.drew = w4 at S n1 n2 nD nq nr HH hS ⊢
        refine wpAnyH_ready (rs := [0, 1]) (by kernel_rfl) (by simp) (AllReadyH.cons (opOf rfl) (fun KK hKK => ?_) (AllReadyH.cons (opOf rfl) (fun KK hKK => ?_) AllReadyH.nil))
        ·
          have c3_ := S.c2 3 rfl; go_simp; clear c3_
          refine ho hKK hS fun hS => ?_
          clear hKK KK
          refine rd 1 fun KK hKK => ?_
          go_simp; clear hS
          refine S.cl (wof_any 1 _ (by decide) (by decide)) ?_; clear S; rintro e w5 ⟨_, rfl, po, lo, Ko, rfl, no⟩ S H
          refine iv6 H n1 n2 nD nq nr HH ?_; clear n1 n2 nD nq nr HH H; intro n1 n2 nD nq nr HH
          go_wp2_with fail
          refine ho hKK trivial fun hS => ?_
          clear hKK KK
          refine rd 2 fun KK hKK => ?_
          go_simp; clear hS
          refine S.cl (wadd_to ⟨_, _, _, rfl, nq⟩ ⟨_, _, _, rfl, no⟩ HQ.out.2.2.1 (lt_maxN (by decide)) z HZ.out HQ.out.2.2.2.2.1) ?_; clear S; rintro e w6 ⟨_, rfl, py, ly, Ky, rfl, ny⟩ S H
          refine iv7 H n1 n2 nD nq nr no HH ?_; clear n1 n2 nD nq nr no HH H; intro n1 n2 nD nq nr no HH
          go_wp2_with fail
          refine ho hKK trivial fun hS => ?_
          clear hKK KK
          refine tk 3 hS ?_
          refine tk 4 hS ?_
          refine tk 5 hS ?_
          refine rd 6 fun KK hKK => ?_
          have c0 := S.c 3 0 rfl rfl; have f0 := S.f 3 0 rfl; have c1 := S.c 3 1 rfl rfl; have f1 := S.f 3 1 rfl; go_simp; clear hS c0 f0 c1 f1
          have H := S.hset 3 0 (.bool (negB z)) rfl rfl (by intro q n e; cases e)
          replace S := S.set 3 0 (.bool (negB z)) rfl
          refine iv8 H n1 n2 nD nq nr no ny HH ?_; clear n1 n2 nD nq nr no ny HH H; intro n1 n2 nD nq nr no ny HH
          have H := S.hset 3 1 (.slice py ly Ky) rfl rfl (by intro q n e; cases e)
          replace S := S.set 3 1 (.slice py ly Ky) rfl
          refine iv8 H n1 n2 nD nq nr no ny HH ?_; clear n1 n2 nD nq nr no ny HH H; intro n1 n2 nD nq nr no ny HH
          refine ho hKK trivial fun hS => ?_
          generalize ((w6.setCell ⟨w2.heap.size, 0, none⟩ (.bool (negB z))).setCell ⟨w2.heap.size, 1, none⟩ (.slice py ly Ky)) = w7 at S n1 n2 nD nq nr no ny HH hS ⊢
          clear hKK KK
          refine rd 7 fun KK hKK => ?_
          go_simp
          refine ho hKK hS fun hS => ?_
          clear hKK KK
          refine wpAnyH_done (by kernel_rfl) ?_ _
          go_wp2_with fail
          go_meet
          case rel => exact ⟨py, ly, Ky, rfl, S, ny, HH⟩
        ·
          go_simp; clear hS
          refine S.cl (wof_any 1 _ (by decide) (by decide)) ?_; clear S; rintro e w8 ⟨_, rfl, po, lo, Ko, rfl, no⟩ S H
          refine iv6 H n1 n2 nD nq nr HH ?_; clear n1 n2 nD nq nr HH H; intro n1 n2 nD nq nr HH
          go_wp2_with fail
          refine ho hKK trivial fun hS => ?_
          clear hKK KK
          refine rd 0 fun KK hKK => ?_
          have c3_ := S.c2 3 rfl; go_simp; clear c3_
          refine ho hKK hS fun hS => ?_
          clear hKK KK
          refine rd 2 fun KK hKK => ?_
          go_simp; clear hS
          refine S.cl (wadd_to ⟨_, _, _, rfl, nq⟩ ⟨_, _, _, rfl, no⟩ HQ.out.2.2.1 (lt_maxN (by decide)) z HZ.out HQ.out.2.2.2.2.1) ?_; clear S; rintro e w9 ⟨_, rfl, py, ly, Ky, rfl, ny⟩ S H
          refine iv7 H n1 n2 nD nq nr no HH ?_; clear n1 n2 nD nq nr no HH H; intro n1 n2 nD nq nr no HH
          go_wp2_with fail
          refine ho hKK trivial fun hS => ?_
          clear hKK KK
          refine tk 3 hS ?_
          refine tk 4 hS ?_
          refine tk 5 hS ?_
          refine rd 6 fun KK hKK => ?_
          have c0 := S.c 3 0 rfl rfl; have f0 := S.f 3 0 rfl; have c1 := S.c 3 1 rfl rfl; have f1 := S.f 3 1 rfl; go_simp; clear hS c0 f0 c1 f1
          have H := S.hset 3 0 (.bool (negB z)) rfl rfl (by intro q n e; cases e)
          replace S := S.set 3 0 (.bool (negB z)) rfl
          refine iv8 H n1 n2 nD nq nr no ny HH ?_; clear n1 n2 nD nq nr no ny HH H; intro n1 n2 nD nq nr no ny HH
          have H := S.hset 3 1 (.slice py ly Ky) rfl rfl (by intro q n e; cases e)
          replace S := S.set 3 1 (.slice py ly Ky) rfl
          refine iv8 H n1 n2 nD nq nr no ny HH ?_; clear n1 n2 nD nq nr no ny HH H; intro n1 n2 nD nq nr no ny HH
          refine ho hKK trivial fun hS => ?_
          generalize ((w9.setCell ⟨w2.heap.size, 0, none⟩ (.bool (negB z))).setCell ⟨w2.heap.size, 1, none⟩ (.slice py ly Ky)) = w10 at S n1 n2 nD nq nr no ny HH hS ⊢
          clear hKK KK
          refine rd 7 fun KK hKK => ?_
          go_simp
          refine ho hKK hS fun hS => ?_
          clear hKK KK
          refine wpAnyH_done (by kernel_rfl) ?_ _
          go_wp2_with fail
          go_meet
          case rel => exact ⟨py, ly, Ky, rfl, S, ny, HH⟩
      case rest =>
        obtain ⟨py, ly, Ky, rfl, S, ny, HH⟩ := hcut
        obtain ⟨w11, rfl⟩ : ∃ W : World, W = wc := ⟨_, rfl⟩
        refine iv5 HH n1 n2 nD nq nr ?_; clear n1 n2 nD nq nr HH; intro n1 n2 nD nq nr; have c0_ := S.c2 0 rfl; have c1_ := S.c2 1 rfl; have c2_ := S.c2 2 rfl; have c3_ := S.c2 3 rfl; have c4_ := S.c2 4 rfl; have f2_0 := S.f 2 0 rfl
        have H := S.hset 2 0 (.bool (negB z)) rfl rfl (by intro q n e; cases e)
        replace S := S.set 2 0 (.bool (negB z)) rfl
        refine iv6 H n1 n2 nD nq nr ny ?_; clear n1 n2 nD nq nr ny; intro n1 n2 nD nq nr ny
        clear H; have f2_1 := S.f 2 1 rfl
        have H := S.hset 2 1 (.slice py ly Ky) rfl rfl (by intro q n e; cases e)
        replace S := S.set 2 1 (.slice py ly Ky) rfl
        refine iv6 H n1 n2 nD nq nr ny ?_; clear n1 n2 nD nq nr ny; intro n1 n2 nD nq nr ny
        clear H; go_wp2_with fail; have d2_0 := S.c 2 0 rfl rfl; have d2_1 := S.c 2 1 rfl rfl
        exact bodyPost_ret (v := .tuple #[.agg #[.bool (negB z), .slice py ly Ky], .int .i64 0]) (by simp [results, Tryz.f153, go_sem, d2_0, d2_1]) rfl (⟨⟨_, rfl, py, ly, Ky, rfl, ny⟩, S.below⟩)
    · have HZ : z = q := by rw [hzq, if_neg (by rintro ⟨_, h⟩; exact h0 h)]
      have hg1 : g = 0 := by rw [← hg, show r = 0 by omega]; rfl
      subst hg1
      clear hzq hg h0 hr0
      have S := (((St.start w).alloc 25 [.bool b1, .slice p1 l1 K1] (w.heap.size)).alloc 25 [.bool b2, .slice p2 l2 K2] (w.heap.size + 1)).alloc 25 [.bool false, .slice none 0 0] (w.heap.size + 1 + 1)
      try simp only [List.cons_append, List.nil_append] at S
      replace n1 := n1.hold S.hold; replace n2 := n2.hold S.hold
      have c0_ := S.c2 0 rfl; have c1_ := S.c2 1 rfl; have c2_ := S.c2 2 rfl
      go_enter Tryz.func153, Tryz.ntmps153
      go_wp2_with fail; clear c0_ c1_ c2_
      refine S.cl (wleft_any ⟨_, _, _, by rw [HD.out.2.2.2.2.2.2.2], n2⟩ HD.out.2.1 s HD.out.2.2.1 HD.out.2.2.2.2.2.1 D HD.out.2.2.2.2.1) ?_; clear S; rintro e w1 ⟨_, rfl, pD, lD, KD, rfl, nD⟩ S H
      replace n1 := n1.hold H; replace n2 := n2.hold H
      clear H; have c0_ := S.c2 0 rfl; have c1_ := S.c2 1 rfl; have c2_ := S.c2 2 rfl; have f1_0 := S.f 1 0 rfl
      have H := S.hset 1 0 (.bool (negB D)) rfl rfl (by intro q n e; cases e)
      replace S := S.set 1 0 (.bool (negB D)) rfl
      refine iv3 H n1 n2 nD ?_; clear n1 n2 nD; intro n1 n2 nD
      clear H; have f1_1 := S.f 1 1 rfl
      have H := S.hset 1 1 (.slice pD lD KD) rfl rfl (by intro q n e; cases e)
      replace S := S.set 1 1 (.slice pD lD KD) rfl
      refine iv3 H n1 n2 nD ?_; clear n1 n2 nD; intro n1 n2 nD
      clear H; have c0_ := S.c2 0 rfl; have c1_ := S.c2 1 rfl; go_wp2_with fail; clear c0_ c1_ c2_ f1_0 f1_1; clear c0_ c1_
      refine S.cl (wdiv_to ⟨_, _, _, by rw [← HD.out.2.2.2.1, HD.out.2.2.2.2.2.2.1], by rw [← HD.out.2.2.2.1]; exact n1⟩ ⟨_, _, _, rfl, nD⟩ HQ.out.2.2.2.2.2.1 HQ.out.2.2.2.2.2.2.1 q r HQ.out.2.2.2.2.2.2.2 HQ.out.1 HQ.out.2.1) ?_; clear S; rintro e w2 ⟨_, _, rfl, ⟨pq, lq, Kq, rfl, nq⟩, ⟨pr, lr, Kr, rfl, nr⟩⟩ S H
      refine iv3 H n1 n2 nD ?_; clear n1 n2 nD; intro n1 n2 nD
      clear H; have c0_ := S.c2 0 rfl; have c1_ := S.c2 1 rfl; have c2_ := S.c2 2 rfl
      have H := S.hnew 25 [.bool (negB q), .slice pq lq Kq]
      replace S := S.al 25 [.bool (negB q), .slice pq lq Kq] (w2.heap.size)
      refine iv5 H n1 n2 nD nq nr ?_; clear n1 n2 nD nq nr; intro n1 n2 nD nq nr
      clear H
      have H := S.hnew 25 [.bool (negB r), .slice pr lr Kr]
      replace S := S.al 25 [.bool (negB r), .slice pr lr Kr] (w2.heap.size + 1)
      refine iv5 H n1 n2 nD nq nr ?_; clear n1 n2 nD nq nr; intro n1 n2 nD nq nr
      clear H; clear c0_ c1_ c2_; have c0_ := S.c2 0 rfl; have c1_ := S.c2 1 rfl; have c2_ := S.c2 2 rfl; have c3_ := S.c2 3 rfl; have c4_ := S.c2 4 rfl; go_wp2_with fail; clear c0_ c1_ c2_ c3_ c4_
      refine S.cl (wsign_any ⟨_, _, _, rfl, nr⟩ HQ.out.2.2.2.1 HG.out) ?_; clear S; rintro e w3 rfl S H
      refine iv5 H n1 n2 nD nq nr ?_; clear n1 n2 nD nq nr; intro n1 n2 nD nq nr
      clear H; have c0_ := S.c2 0 rfl; have c1_ := S.c2 1 rfl; have c2_ := S.c2 2 rfl; have c3_ := S.c2 3 rfl; have c4_ := S.c2 4 rfl
      subst HZ
      have f2_0 := S.f 2 0 rfl
      have H := S.hset 2 0 (.bool (negB z)) rfl rfl (by intro q n e; cases e)
      replace S := S.set 2 0 (.bool (negB z)) rfl
      refine iv5 H n1 n2 nD nq nr ?_; clear n1 n2 nD nq nr; intro n1 n2 nD nq nr
      clear H; have f2_1 := S.f 2 1 rfl
      have H := S.hset 2 1 (.slice pq lq Kq) rfl rfl (by intro q n e; cases e)
      replace S := S.set 2 1 (.slice pq lq Kq) rfl
      refine iv5 H n1 n2 nD nq nr ?_; clear n1 n2 nD nq nr; intro n1 n2 nD nq nr
      clear H; go_wp2_with fail; have d2_0 := S.c 2 0 rfl rfl; have d2_1 := S.c 2 1 rfl rfl
      exact bodyPost_ret (v := .tuple #[.agg #[.bool (negB z), .slice pq lq Kq], .int .i64 0]) (by simp [results, Tryz.f153, go_sem, d2_0, d2_1]) rfl (⟨⟨_, rfl, pq, lq, Kq, rfl, nq⟩, S.below⟩)
theorem divI_le (n : Int) {d : Nat} (hd0 : 0 < d) (up : Bool) : (divI n (d : Int) up).natAbs * d ≤ n.natAbs + d := by
  have h1 := Int.emod_add_mul_ediv n (d : Int)
  have h2 := Int.emod_nonneg n (show (d : Int) ≠ 0 by omega)
  have h3 := Int.emod_lt_of_pos n (show (0 : Int) < (d : Int) by omega)
  unfold divI
  generalize n / (d : Int) = q at *
  generalize n % (d : Int) = r at *
  have h4 : ∀ z : Int, z.natAbs * d = (z * (d : Int)).natAbs := fun z => by rw [Int.natAbs_mul, Int.natAbs_natCast]
  rw [h4]
  split
  · rw [Int.add_mul, Int.mul_comm q]; omega
  · rw [Int.mul_comm q]; omega
theorem divI_bits {n : Int} {d k : Nat} (hd0 : 0 < d) (up : Bool) (h : n.natAbs < d * 2 ^ k) : (divI n (d : Int) up).natAbs ≤ 2 ^ k := by
  have h1 := divI_le n hd0 up
  have h2 : (divI n (d : Int) up).natAbs * d < (2 ^ k + 1) * d := by rw [Nat.add_mul, Nat.one_mul, Nat.mul_comm (2 ^ k)]; omega
  have := Nat.lt_of_mul_lt_mul_right h2
  omega
def rndZ (z f : Int) (n : Nat) (up : Bool) : Rat := if nbits z.natAbs ≤ n then dq z f else dq (divI z ((2 ^ (nbits z.natAbs - n) : Nat) : Int) up) (f + ((nbits z.natAbs - n : Nat) : Int))
theorem rnd_canon {m e z f : Int} (hc : DyC m e) (h : dq m e = dq z f) (n : Nat) (up : Bool) : rnd m e n up = rndZ z f n up := by
  rcases hc with ⟨h1, h2⟩ | hm
  · subst h1
    rw [dq_zero] at h
    have hz : z = 0 := ((dq_eq 0 z f).1 (by rw [dq_zero]; exact h)).symm
    subst hz
    have h0 : nbits (Int.natAbs 0) = 0 := rfl
    unfold rnd rndZ
    rw [h0, if_pos (Nat.zero_le n), if_pos (Nat.zero_le n), dq_zero, dq_zero]
  · obtain ⟨t, hz, he⟩ := dq_odd hm h
    have hm0 : m.natAbs ≠ 0 := by omega
    have hnb : nbits z.natAbs = nbits m.natAbs + t := by
      rw [hz, Int.natAbs_mul, Int.natAbs_natCast, nbits_shl t hm0]
    unfold rnd rndZ
    rw [hnb]
    obtain ⟨b, hb⟩ : ∃ b, nbits m.natAbs = b := ⟨_, rfl⟩
    rw [hb]
    by_cases h1 : b + t ≤ n
    · rw [if_pos (by omega), if_pos h1, h]
    · rw [if_neg h1]
      by_cases h2 : b ≤ n
      · rw [if_pos h2]
        obtain ⟨v, hv⟩ : ∃ v, b + t - n = v := ⟨_, rfl⟩
        rw [hv]
        obtain ⟨u, hu⟩ : ∃ u, t = u + v := ⟨t - v, by omega⟩
        have hp : (2 ^ t : Nat) = 2 ^ u * 2 ^ v := by rw [hu, Nat.pow_add]
        have h2v := Nat.two_pow_pos v
        have hzv : z = (m * ((2 ^ u : Nat) : Int)) * ((2 ^ v : Nat) : Int) := by rw [hz, hp, Int.natCast_mul, Int.mul_assoc]
        have e1 : divI z ((2 ^ v : Nat) : Int) up = m * ((2 ^ u : Nat) : Int) := by
          unfold divI
          rw [hzv, Int.mul_emod_left, if_neg (by omega)]
          exact Int.mul_ediv_cancel _ (by omega)
        rw [e1, dq_shift, he, hu]
        congr 1; omega
      · rw [if_neg h2]
        obtain ⟨v, hv⟩ : ∃ v, b - n = v + 1 := ⟨b - n - 1, by omega⟩
        rw [hv, show b + t - n = (v + 1) + t by omega]
        have h2t := Nat.two_pow_pos t
        have h2v := Nat.two_pow_pos (v + 1)
        have hpI : (2 : Int) ^ (v + 1) = ((2 ^ (v + 1) : Nat) : Int) := by simp
        have e2 : m % ((2 ^ (v + 1) : Nat) : Int) ≠ 0 := by
          intro e0
          have := Int.dvd_of_emod_eq_zero e0
          rw [Nat.pow_succ, Int.natCast_mul] at this
          have h3 : ((2 : Nat) : Int) ∣ m := Int.dvd_trans (Int.dvd_mul_left _ _) this
          omega
        have e3 := Int.emod_nonneg m (show ((2 ^ (v + 1) : Nat) : Int) ≠ 0 by omega)
        have e4 : z % ((2 ^ (v + 1 + t) : Nat) : Int) = (m % ((2 ^ (v + 1) : Nat) : Int)) * ((2 ^ t : Nat) : Int) := by
          rw [hz, Nat.pow_add, Int.natCast_mul, Int.mul_comm m, Int.mul_comm ((2 ^ (v + 1) : Nat) : Int), Int.mul_emod_mul_of_pos _ _ (by omega), Int.mul_comm]
        have e5 : z / ((2 ^ (v + 1 + t) : Nat) : Int) = m / ((2 ^ (v + 1) : Nat) : Int) := by
          rw [hz, Nat.pow_add, Int.natCast_mul, Int.mul_ediv_mul_of_pos_left _ _ (by omega)]
        have e6 : divI z ((2 ^ (v + 1 + t) : Nat) : Int) up = rndI m (v + 1) up := by
          unfold divI rndI
          rw [e4, e5, hpI]
          have h7 : 0 < m % ((2 ^ (v + 1) : Nat) : Int) * ((2 ^ t : Nat) : Int) := Int.mul_pos (by omega) (by omega)
          cases up
          · rw [if_neg (by rintro ⟨h, _⟩; cases h), if_neg (by decide), Int.add_zero]
          · rw [if_pos ⟨rfl, h7⟩, if_pos rfl]
        rw [e6, he]
        congr 1; omega
def nearV (num : Int) (d t n : Nat) (up : Bool) : Rat :=
  rndZ (divI (num * ((2 ^ ((n : Int) + nbits d - nbits num.natAbs).toNat : Nat) : Int)) ((d : Int) * ((2 ^ (-((n : Int) + nbits d - nbits num.natAbs)).toNat : Nat) : Int)) up) (-((n : Int) + nbits d - nbits num.natAbs) - t) n up
theorem rb_dyad {m e : Int} {x : Rat} {L H k : Nat} (h : DyF m e x L H) (h1 : H + L ≤ 32 * k) (h2 : L + 1 ≤ 32 * k) : RB x k := by
  obtain ⟨hc, hz, hx⟩ := h
  subst hx
  have hsz := pb_nb hz.size h1
  by_cases he : 0 ≤ e
  · obtain ⟨s, hs⟩ : ∃ s : Nat, e = s := ⟨e.toNat, by omega⟩
    subst hs
    rw [dq_whole]
    have h3 : (m * ((2 ^ s : Nat) : Int)).natAbs < NB k := by
      refine pb_nb (n := H + L) ?_ h1
      rw [Int.natAbs_mul, Int.natAbs_natCast]
      refine Nat.lt_of_le_of_lt ?_ hz.2
      exact Nat.mul_le_mul_left _ (Nat.pow_le_pow_right (by decide) (by omega))
    exact ⟨h3, by show 1 < NB k; exact pb_nb (n := 1) (by rw [PB_is]; decide) (by omega)⟩
  · obtain ⟨s, hs⟩ : ∃ s : Nat, e = -(s : Int) := ⟨(-e).toNat, by omega⟩
    subst hs
    have hm : m % 2 = 1 := by rcases hc with ⟨_, h⟩ | h; omega; exact h
    obtain ⟨a, b⟩ := dq_stands hm s
    refine ⟨by rw [a]; exact hsz, ?_⟩
    rw [b]
    have h3 := hz.1
    exact pb_nb (n := s + 1) (by rw [PB_is]; exact Nat.pow_lt_pow_right (by decide) (by omega)) (by omega)
set_option maxRecDepth 100000 in
set_option maxHeartbeats 8000000 in
theorem dratio_any {va : Value} {x : Rat} {L H : Nat} {w : World} (ha : IsD w va x L H) (hLH : H + L + 1 ≤ 16384) :
    Calls Tryz.prog 65 #[va] w fun ev w' => (∃ u, ev = .returned (.tuple #[u, .int .i64 0]) ∧ IsRat w' u x) ∧ Below w.heap.size w w' := by
  obtain ⟨b, p, l, K, m, e, rfl, hb, nm, hd⟩ := ha
  have hmax := hd.out.max (by omega)
  by_cases he : 0 ≤ e
  · obtain ⟨s, hs⟩ : ∃ s : Nat, e = s := ⟨e.toNat, by omega⟩
    subst hs
    have hz := hd.out.2.1
    have h3 : m.natAbs * 2 ^ s < PB (H + L) := Nat.lt_of_le_of_lt (Nat.mul_le_mul_left _ (Nat.pow_le_pow_right (by decide) (by omega))) hz.2
    have hp : (2 : Int) ^ s = ((2 ^ s : Nat) : Int) := by simp
    obtain ⟨z, hz2⟩ : ∃ z, m * 2 ^ s = z := ⟨_, rfl⟩
    have hzm : z.natAbs < maxN := by rw [← hz2, hp, Int.natAbs_mul, Int.natAbs_natCast]; exact pb_max h3 (by omega)
    have hx : x = (z : Rat) := by rw [← hd.out.2.2, dq_whole, ← hz2, hp]
    have hex := hd.out.exp
    have HD := Lib.hid (And.intro hmax (And.intro hz2 (And.intro hzm (And.intro hx (And.intro (show s ≤ 9223372036854775807 by omega) (pb_max h3 (by omega)))))))
    clear hmax hz h3 hp hz2 hzm hx hLH hex
    have S := ((St.start w).alloc 27 [.bool b, .slice p l K, .int .i64 s] (w.heap.size)).alloc 34 [.bool false, .slice none 0 0, .slice none 0 0] (w.heap.size + 1)
    try simp only [List.cons_append, List.nil_append] at S
    replace nm := nm.hold S.hold
    have c0_ := S.c3 0 rfl; have c1_ := S.c3 1 rfl
    go_enter Tryz.func65, Tryz.ntmps65
    go_wp2_with fail; clear c0_ c1_
    refine S.cl (wleft_any ⟨_, _, _, by rw [hb.out], nm⟩ HD.out.1 s HD.out.2.2.2.2.1 HD.out.2.2.2.2.2 z HD.out.2.1) ?_; clear S; rintro e w1 ⟨_, rfl, pz, lz, Kz, rfl, nz⟩ S H
    replace nm := nm.hold H; clear H; have c0_ := S.c3 0 rfl; have c1_ := S.c3 1 rfl
    have H := S.hnew 25 [.bool (negB z), .slice pz lz Kz]
    replace S := S.al 25 [.bool (negB z), .slice pz lz Kz] (w1.heap.size)
    replace nm := nm.hold H; replace nz := nz.hold H
    clear H; clear c0_ c1_; have c0_ := S.c3 0 rfl; have c1_ := S.c3 1 rfl; have c2_ := S.c2 2 rfl; go_wp2_with fail; clear c0_ c1_ c2_
    refine S.cl (rwhole_any ⟨_, _, _, rfl, nz⟩ HD.out.2.2.1 x HD.out.2.2.2.1) ?_; clear S; rintro e w2 ⟨_, rfl, b3, p3, l3, K3, q3, j3, J3, rfl, h3, n3, d3⟩ S H
    replace nm := nm.hold H; replace nz := nz.hold H
    clear H; have c0_ := S.c3 0 rfl; have c1_ := S.c3 1 rfl; have c2_ := S.c2 2 rfl
    obtain ⟨f1_0, f1_1, f1_2⟩ := S.f3 1 rfl
    have HP := S.putq 1 (.bool b3) (.slice p3 l3 K3) (.slice q3 j3 J3) rfl rfl; have H := HP.2; replace S := HP.1; clear HP
    refine iv4 H nm nz n3 d3 ?_; clear nm nz n3 d3; intro nm nz n3 d3
    clear H; go_wp2_with fail; obtain ⟨d1_0, d1_1, d1_2⟩ := S.c3 1 rfl
    exact bodyPost_ret (v := .tuple #[.agg #[.bool b3, .slice p3 l3 K3, .slice q3 j3 J3], .int .i64 0]) (by simp [results, Tryz.f65, go_sem, d1_0, d1_1, d1_2]) rfl (⟨⟨_, rfl, b3, p3, l3, K3, q3, j3, J3, rfl, h3, n3, d3⟩, S.below⟩)
  · obtain ⟨s, hs⟩ : ∃ s : Nat, -e = s := ⟨(-e).toNat, by omega⟩
    have hm : m % 2 = 1 := by rcases hd.out.1 with ⟨_, h⟩ | h; omega; exact h
    have hst := dq_stands hm s
    rw [show -(s : Int) = e by omega, hd.out.2.2] at hst
    have hex := hd.out.exp
    have hwr : IntKind.i64.wrap (-e) = (s : Int) := by rw [wrap_int (by omega) (by omega), hs]
    have h1s : 1 * 2 ^ s < maxN := by
      rw [Nat.one_mul]
      exact pb_max (n := s + 1) (by rw [PB_is]; exact Nat.pow_lt_pow_right (by decide) (by omega)) (by omega)
    have HD := Lib.hid (And.intro hmax (And.intro hst (And.intro (show s ≤ 9223372036854775807 by omega) h1s)))
    clear hmax hs hm hst hLH hex h1s
    have S := ((St.start w).alloc 27 [.bool b, .slice p l K, .int .i64 e] (w.heap.size)).alloc 34 [.bool false, .slice none 0 0, .slice none 0 0] (w.heap.size + 1)
    try simp only [List.cons_append, List.nil_append] at S
    replace nm := nm.hold S.hold
    have c0_ := S.c3 0 rfl; have c1_ := S.c3 1 rfl
    go_enter Tryz.func65, Tryz.ntmps65
    go_upto_region 4 with fail
    clear c0_ c1_
    replace nm := nm.hold (Hold.drew _)
    replace S := S.drew
    refine wp_region_held_drew (S := fun W => W.cell? ⟨w.heap.size, 1, none⟩ = some (.slice p l K) ∧ W.cell? ⟨w.heap.size, 2, none⟩ = some (.int .i64 e)) (by kernel_rfl) ⟨(S.c 0 1 rfl rfl), (S.c 0 2 rfl rfl)⟩ (fun hS => ?_)
    refine tk 1 hS ?_
    refine tk 2 hS ?_
    refine tk 3 hS ?_
    refine rd 0 fun KK hKK => ?_
    go_simp
    refine (S.call (of_any 1 _ (by decide))).mono ?_; clear S; rintro e w1 ⟨⟨v1, rfl, n1⟩, S, H⟩; replace nm := nm.hold H; clear H
    go_wp2_with fail
    refine ho hKK ⟨(S.c 0 1 rfl rfl), (S.c 0 2 rfl rfl)⟩ fun hS => ?_
    clear hKK KK
    refine rd 4 fun KK hKK => ?_
    go_simp
    refine (S.call (left_fit n1 (lt_maxN (by decide)) s HD.out.2.2.1 HD.out.2.2.2)).mono ?_; clear S; rintro e w2 ⟨⟨v, rfl, nv⟩, S, H⟩; replace nm := nm.hold H; replace n1 := n1.hold H; clear H
    go_wp2_with fail
    refine ho hKK ⟨(S.c 0 1 rfl rfl), (S.c 0 2 rfl rfl)⟩ fun hS => ?_
    clear hKK KK
    refine tk 5 hS ?_
    refine tk 6 hS ?_
    refine tk 7 hS ?_
    refine rd 8 fun KK hKK => ?_
    go_simp
    refine ho hKK ⟨(S.c 0 1 rfl rfl), (S.c 0 2 rfl rfl)⟩ fun hS => ?_
    clear hKK KK
    refine rd 9 fun KK hKK => ?_
    go_simp
    refine ho hKK ⟨(S.c 0 1 rfl rfl), (S.c 0 2 rfl rfl)⟩ fun hS => ?_
    clear hKK KK
    refine wpAnyH_done (by kernel_rfl) ?_ _
    obtain ⟨pv, lv, Kv, rfl⟩ := nv.form
    have c0_ := S.c3 0 rfl; have c1_ := S.c3 1 rfl
    go_upto_region 7 with fail
    clear c0_ c1_
    go_cut [8] (fun s8 wx => ∃ g8 pc lc Kc, s8 = .pointer (some ⟨g8, 0, none⟩) ∧ St w wx [(w.heap.size, 27, [.bool b, .slice p l K, .int .i64 e]), (w.heap.size + 1, 34, [.bool false, .slice none 0 0, .slice none 0 0]), (g8, 25, [.bool b, .slice pc lc Kc])] ∧ IsNat wx (.slice pc lc Kc) m.natAbs ∧ Hold w2 wx)
    case first =>
      have HH := Hold.drew w2
      refine iv3 HH nm n1 nv ?_; clear nm n1 nv; intro nm n1 nv
      replace S := S.drew
      refine wp_region_held_drew (S := fun W => W.cell? ⟨w.heap.size, 0, none⟩ = some (.bool b) ∧ W.cell? ⟨w.heap.size, 1, none⟩ = some (.slice p l K)) (by kernel_rfl) ⟨(S.c 0 0 rfl rfl), (S.c 0 1 rfl rfl)⟩ (fun hS => ?_)
      generalize w2.drew = w3 at S nm n1 nv HH hS ⊢
      refine tk 0 hS ?_
      refine tk 1 hS ?_
      refine tk 2 hS ?_
      refine tk 3 hS ?_
      refine tk 4 hS ?_
      refine tk 5 hS ?_
      refine wpAnyH_ready (rs := [6, 8]) (by kernel_rfl) (by simp) (AllReadyH.cons (opOf rfl) (fun KK hKK => ?_) (AllReadyH.cons (opOf rfl) (fun KK hKK => ?_) AllReadyH.nil))
      ·
        go_simp; clear hS
        refine S.cl (clone_any nm HD.out.1) ?_; clear S; rintro e w4 ⟨_, rfl, nc⟩ S H
        refine iv4 H nm n1 nv HH ?_; clear nm n1 nv HH H; intro nm n1 nv HH
        obtain ⟨pc, lc, Kc, rfl⟩ := nc.form
        go_wp2_with fail
        refine ho hKK ⟨(S.c 0 0 rfl rfl), (S.c 0 1 rfl rfl)⟩ fun hS => ?_
        clear hKK KK
        refine tk 7 hS ?_
        refine rd 8 fun KK hKK => ?_
        go_simp; clear hS
        have H := S.hnew 25 [.bool false, .slice none 0 0]
        replace S := S.al 25 [.bool false, .slice none 0 0] (w4.heap.size)
        refine iv5 H nm n1 nv nc HH ?_; clear nm n1 nv nc HH H; intro nm n1 nv nc HH
        refine ho hKK ⟨(S.c 0 0 rfl rfl), (S.c 0 1 rfl rfl)⟩ fun hS => ?_
        generalize (w4.alloc (.cells #[.bool false, .slice none 0 0] 25)) = w5 at S nm n1 nv nc HH hS ⊢
        clear hKK KK
        refine rd 9 fun KK hKK => ?_
        have c0 := S.c 2 0 rfl rfl; have f0 := S.f 2 0 rfl; have c1 := S.c 2 1 rfl rfl; have f1 := S.f 2 1 rfl; go_simp; clear hS c0 f0 c1 f1
        have H := S.hset 2 0 (.bool b) rfl rfl (by intro q n e; cases e)
        replace S := S.set 2 0 (.bool b) rfl
        refine iv5 H nm n1 nv nc HH ?_; clear nm n1 nv nc HH H; intro nm n1 nv nc HH
        have H := S.hset 2 1 (.slice pc lc Kc) rfl rfl (by intro q n e; cases e)
        replace S := S.set 2 1 (.slice pc lc Kc) rfl
        refine iv5 H nm n1 nv nc HH ?_; clear nm n1 nv nc HH H; intro nm n1 nv nc HH
        refine ho hKK ⟨(S.c 0 0 rfl rfl), (S.c 0 1 rfl rfl)⟩ fun hS => ?_
        generalize ((w5.setCell ⟨w4.heap.size, 0, none⟩ (.bool b)).setCell ⟨w4.heap.size, 1, none⟩ (.slice pc lc Kc)) = w6 at S nm n1 nv nc HH hS ⊢
        clear hKK KK
        refine wpAnyH_done (by kernel_rfl) ?_ _
        go_wp2_with fail
        go_meet
        case rel => exact ⟨w4.heap.size, pc, lc, Kc, rfl, S, nc, HH⟩
      ·
        go_simp; clear hS
        have H := S.hnew 25 [.bool false, .slice none 0 0]
        replace S := S.al 25 [.bool false, .slice none 0 0] (w3.heap.size)
        refine iv4 H nm n1 nv HH ?_; clear nm n1 nv HH H; intro nm n1 nv HH
        refine ho hKK ⟨(S.c 0 0 rfl rfl), (S.c 0 1 rfl rfl)⟩ fun hS => ?_
        generalize (w3.alloc (.cells #[.bool false, .slice none 0 0] 25)) = w7 at S nm n1 nv HH hS ⊢
        clear hKK KK
        refine rd 6 fun KK hKK => ?_
        go_simp; clear hS
        refine S.cl (clone_any nm HD.out.1) ?_; clear S; rintro e w8 ⟨_, rfl, nc⟩ S H
        refine iv4 H nm n1 nv HH ?_; clear nm n1 nv HH H; intro nm n1 nv HH
        obtain ⟨pc, lc, Kc, rfl⟩ := nc.form
        go_wp2_with fail
        refine ho hKK ⟨(S.c 0 0 rfl rfl), (S.c 0 1 rfl rfl)⟩ fun hS => ?_
        clear hKK KK
        refine tk 7 hS ?_
        refine rd 9 fun KK hKK => ?_
        have c0 := S.c 2 0 rfl rfl; have f0 := S.f 2 0 rfl; have c1 := S.c 2 1 rfl rfl; have f1 := S.f 2 1 rfl; go_simp; clear hS c0 f0 c1 f1
        have H := S.hset 2 0 (.bool b) rfl rfl (by intro q n e; cases e)
        replace S := S.set 2 0 (.bool b) rfl
        refine iv5 H nm n1 nv nc HH ?_; clear nm n1 nv nc HH H; intro nm n1 nv nc HH
        have H := S.hset 2 1 (.slice pc lc Kc) rfl rfl (by intro q n e; cases e)
        replace S := S.set 2 1 (.slice pc lc Kc) rfl
        refine iv5 H nm n1 nv nc HH ?_; clear nm n1 nv nc HH H; intro nm n1 nv nc HH
        refine ho hKK ⟨(S.c 0 0 rfl rfl), (S.c 0 1 rfl rfl)⟩ fun hS => ?_
        generalize ((w8.setCell ⟨w3.heap.size, 0, none⟩ (.bool b)).setCell ⟨w3.heap.size, 1, none⟩ (.slice pc lc Kc)) = w9 at S nm n1 nv nc HH hS ⊢
        clear hKK KK
        refine wpAnyH_done (by kernel_rfl) ?_ _
        go_wp2_with fail
        go_meet
        case rel => exact ⟨w3.heap.size, pc, lc, Kc, rfl, S, nc, HH⟩
    case rest =>
      obtain ⟨g8, pc, lc, Kc, rfl, S, nc, HH⟩ := hcut
      obtain ⟨w10, rfl⟩ : ∃ W : World, W = wc := ⟨_, rfl⟩
      refine iv3 HH nm n1 nv ?_; clear nm n1 nv HH; intro nm n1 nv; have c0_ := S.c3 0 rfl; have c1_ := S.c3 1 rfl; have c2_ := S.c2 2 rfl
      obtain ⟨f1_0, f1_1, f1_2⟩ := S.f3 1 rfl
      have HP := S.putq 1 (.bool b) (.slice pc lc Kc) (.slice pv lv Kv) rfl rfl; have H := HP.2; replace S := HP.1; clear HP
      refine iv4 H nm n1 nv nc ?_; clear nm n1 nv nc; intro nm n1 nv nc
      clear H; go_wp2_with fail; obtain ⟨d1_0, d1_1, d1_2⟩ := S.c3 1 rfl
      exact bodyPost_ret (v := .tuple #[.agg #[.bool b, .slice pc lc Kc, .slice pv lv Kv], .int .i64 0]) (by simp [results, Tryz.f65, go_sem, d1_0, d1_1, d1_2]) rfl (⟨⟨_, rfl, b, pc, lc, Kc, pv, lv, Kv, rfl, by rw [HD.out.2.1.1]; exact hb, by rw [HD.out.2.1.1]; exact nc, by rw [HD.out.2.1.2, ← Nat.one_mul (2 ^ s)]; exact nv⟩, S.below⟩)
set_option maxRecDepth 100000 in
set_option maxHeartbeats 4000000 in
theorem dcmp_any {va vb : Value} {x y : Rat} {L H k1 k2 : Nat} {w : World} (ha : IsD w va x L H) (hb : IsRat w vb y) (hLH : H + L + 1 ≤ 16384) (hx : H + L + 1 ≤ 32 * k1) (hy : RB y k2) (hk : k1 + k2 ≤ 511) (c : Int) (hc : cmpR x y = c) :
    Calls Tryz.prog 38 #[va, vb] w fun ev w' => ev = .returned (.tuple #[.int .i64 c, .int .i64 0]) ∧ Below w.heap.size w w' := by
  obtain ⟨b, p, l, K, m, e, rfl, hb1, nm, hd⟩ := ha
  obtain ⟨b2, p2, l2, K2, q2, j2, J2, rfl, hb2, n2, d2⟩ := hb
  have HX := Lib.hid (And.intro hLH (And.intro (rb_dyad hd.out (k := k1) (by omega) (by omega)) (And.intro hy (And.intro hk hc))))
  clear hLH hx hy hk hc
  have S := ((St.start w).alloc 27 [.bool b, .slice p l K, .int .i64 e] (w.heap.size)).alloc 34 [.bool b2, .slice p2 l2 K2, .slice q2 j2 J2] (w.heap.size + 1)
  try simp only [List.cons_append, List.nil_append] at S
  refine iv3 S.hold nm n2 d2 ?_; clear nm n2 d2; intro nm n2 d2
  have c0_ := S.c3 0 rfl; have c1_ := S.c3 1 rfl
  go_enter Tryz.func38, Tryz.ntmps38
  go_wp2_with fail; clear c0_ c1_
  refine S.cl (dratio_any ⟨b, p, l, K, m, e, rfl, hb1, nm, hd⟩ HX.out.1) ?_; clear S; rintro e w1 ⟨_, rfl, b3, p3, l3, K3, q3, j3, J3, rfl, h3, n3, d3⟩ S H
  refine iv3 H nm n2 d2 ?_; clear nm n2 d2; intro nm n2 d2
  clear H; have c0_ := S.c3 0 rfl; have c1_ := S.c3 1 rfl
  have H := S.hnew 34 [.bool b3, .slice p3 l3 K3, .slice q3 j3 J3]
  replace S := S.al 34 [.bool b3, .slice p3 l3 K3, .slice q3 j3 J3] (w1.heap.size)
  refine iv5 H nm n2 d2 n3 d3 ?_; clear nm n2 d2 n3 d3; intro nm n2 d2 n3 d3
  clear H; clear c0_ c1_; have c0_ := S.c3 0 rfl; have c1_ := S.c3 1 rfl; have c2_ := S.c3 2 rfl; go_wp2_with fail; clear c0_ c1_ c2_
  refine S.cl (rcompare_any ⟨b3, p3, l3, K3, q3, j3, J3, rfl, h3, n3, d3⟩ ⟨b2, p2, l2, K2, q2, j2, J2, rfl, hb2, n2, d2⟩ HX.out.2.1 HX.out.2.2.1 HX.out.2.2.2.1 c HX.out.2.2.2.2) ?_; clear S; rintro e w2 rfl S H
  refine iv5 H nm n2 d2 n3 d3 ?_; clear nm n2 d2 n3 d3; intro nm n2 d2 n3 d3
  clear H; have c0_ := S.c3 0 rfl; have c1_ := S.c3 1 rfl; have c2_ := S.c3 2 rfl; go_wp2_with fail
  exact bodyPost_ret (v := .tuple #[.int .i64 c, .int .i64 0]) (by simp [results, Tryz.f38, go_sem]) rfl (⟨rfl, S.below⟩)
theorem tail_uniq {n s t : Nat} (h0 : n ≠ 0) (h : TailIs n s) (g : TailIs n t) : s = t := by
  rcases h with ⟨h, _⟩ | ⟨a, h⟩
  · exact absurd h h0
  rcases g with ⟨g, _⟩ | ⟨b, g⟩
  · exact absurd g h0
  have hi : TailIs n s := .inr ⟨a, h⟩
  have gi : TailIs n t := .inr ⟨b, g⟩
  have h1 := (tail_cut (n := s) h0 gi).1 (by rw [h]; exact Nat.mul_mod_right _ _)
  have h2 := (tail_cut (n := t) h0 hi).1 (by rw [g]; exact Nat.mul_mod_right _ _)
  omega
theorem tail_ex : ∀ (n : Nat), n ≠ 0 → ∃ t, TailIs n t := by
  intro n
  induction n using Nat.strongRecOn with
  | _ n ih =>
    intro h0
    rcases Nat.mod_two_eq_zero_or_one n with h | h
    · obtain ⟨t, ht⟩ := ih (n / 2) (by omega) (by omega)
      rcases ht with ⟨h1, _⟩ | ⟨m, hm⟩
      · omega
      · exact ⟨t + 1, .inr ⟨m, by rw [Nat.pow_succ, Nat.mul_right_comm, ← hm]; omega⟩⟩
    · exact ⟨0, .inr ⟨n / 2, by rw [Nat.pow_zero]; omega⟩⟩
end Go.Proofs.YtcdmojefheipoaaGreatDoor
