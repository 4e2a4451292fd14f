/-
  What the statement stands on.
-/
import Derived.Test.YtcfgefbkeeedgaaGreatDoorM19
import Derived.Test.YtcfgefbkeeedgaaGreatDoorM20
namespace Go.Proofs.YtcfgefbkeeedgaaGreatDoor
open Go.RowKit
theorem or_two {g : Nat} {w W : World} {L : List (Nat × TypeId × List Value)} (S : St w W L) (i : Nat) {t : TypeId} (hi : L[i]? = some (g, t, [.int .i64 0, .int .i64 0])) :
    Calls Tryz.prog 69 #[.slice (some ⟨g, 0, none⟩) 2 2] W fun e w' => e = .returned (.int .i64 0) ∧ Below W.heap.size W w' :=
  or_zero g 2 W (S.lt i hi) (by decide) fun j hj => by
    match j, hj with
    | 0, _ => exact S.c i 0 hi rfl
    | 1, _ => exact S.c i 1 hi rfl
set_option maxRecDepth 100000 in
set_option maxHeartbeats 4000000 in
theorem cross_any {va vb : Value} {x y : Rat} {w : World} (ha : IsRat w va x) (hb : IsRat w vb y) (h1 : x.num.natAbs < maxN) (h2 : x.den < maxN) (h3 : y.num.natAbs < maxN) (h4 : y.den < maxN) (X Y : Int) (hX : x.num * y.den = X) (hY : y.num * x.den = Y) (hx : X.natAbs < maxN) (hy : Y.natAbs < maxN) :
    Calls Tryz.prog 76 #[va, vb] w fun e w' => (∃ u v, e = .returned (.tuple #[u, v, .int .i64 0]) ∧ IsInt w' u X ∧ IsInt w' v Y) ∧ Below w.heap.size w w' := by
  obtain ⟨b1, p1, l1, K1, q1, j1, J1, rfl, hb1, n1, d1⟩ := ha
  obtain ⟨b2, p2, l2, K2, q2, j2, J2, rfl, hb2, n2, d2⟩ := hb
  have HD := Lib.hid (And.intro h1 (And.intro h2 (And.intro h3 (And.intro h4 (And.intro hX (And.intro hY (And.intro hx hy)))))))
  clear h1 h2 h3 h4 hX hY hx hy
  have S := ((((St.start w).alloc 34 [.bool b1, .slice p1 l1 K1, .slice q1 j1 J1] (w.heap.size)).alloc 34 [.bool b2, .slice p2 l2 K2, .slice q2 j2 J2] (w.heap.size + 1)).alloc 25 [.bool false, .slice none 0 0] (w.heap.size + 1 + 1)).alloc 25 [.bool false, .slice none 0 0] (w.heap.size + 1 + 1 + 1)
  try simp only [List.cons_append, List.nil_append] at S
  refine iv4 S.hold n1 d1 n2 d2 ?_; clear n1 d1 n2 d2; intro n1 d1 n2 d2
  obtain ⟨c0_0, c0_1, c0_2⟩ := S.c3 0 rfl; obtain ⟨c1_0, c1_1, c1_2⟩ := S.c3 1 rfl; have c2_0 := S.c 2 0 rfl rfl; have c2_1 := S.c 2 1 rfl rfl; have c3_0 := S.c 3 0 rfl rfl; have c3_1 := S.c 3 1 rfl rfl
  go_enter Tryz.func76, Tryz.ntmps76
  go_upto_region 1 with fail
  clear c0_0 c0_1 c0_2 c1_0 c1_1 c1_2 c2_0 c2_1 c3_0 c3_1
  generalize ((((w.alloc (.cells #[.bool b1, .slice p1 l1 K1, .slice q1 j1 J1] 34)).alloc (.cells #[.bool b2, .slice p2 l2 K2, .slice q2 j2 J2] 34)).alloc (.cells #[.bool false, .slice none 0 0] 25)).alloc (.cells #[.bool false, .slice none 0 0] 25)) = w1 at S n1 d1 n2 d2 ⊢
  go_cut [7, 8] (fun s7 s8 wx => ∃ g7 p l K, s7 = .pointer (some ⟨g7, 0, none⟩) ∧ s8 = .int .i64 0 ∧ St w wx [(w.heap.size, 34, [.bool b1, .slice p1 l1 K1, .slice q1 j1 J1]), (w.heap.size + 1, 34, [.bool b2, .slice p2 l2 K2, .slice q2 j2 J2]), (w.heap.size + 1 + 1, 25, [.bool false, .slice none 0 0]), (w.heap.size + 1 + 1 + 1, 25, [.bool false, .slice none 0 0]), (g7, 25, [.bool (negB X), .slice p l K])] ∧ IsNat wx (.slice p l K) X.natAbs ∧ Hold w1 wx)
  case first =>
    have HH := Hold.drew w1
    refine iv4 HH n1 d1 n2 d2 ?_; clear n1 d1 n2 d2; intro n1 d1 n2 d2
    replace S := S.drew
    refine wp_region_held_drew (S := fun W => W.cell? ⟨w.heap.size, 0, none⟩ = some (.bool b1) ∧ W.cell? ⟨w.heap.size, 1, none⟩ = some (.slice p1 l1 K1) ∧ W.cell? ⟨w.heap.size + 1, 2, none⟩ = some (.slice q2 j2 J2)) (by kernel_rfl) ⟨(S.c 0 0 rfl rfl), ⟨(S.c 0 1 rfl rfl), (S.c 1 2 rfl rfl)⟩⟩ (fun hS => ?_)
    generalize w1.drew = w2 at S n1 d1 n2 d2 HH hS ⊢
    refine tk 0 hS ?_
    refine tk 1 hS ?_
    refine tk 2 hS ?_
    refine tk 3 hS ?_
    refine wpAnyH_ready (rs := [4, 9]) (by kernel_rfl) (by simp) (AllReadyH.cons (opOf rfl) (fun KK hKK => ?_) (AllReadyH.cons (opOf rfl) (fun KK hKK => ?_) AllReadyH.nil))
    ·
      go_simp; clear hS
      refine (S.call (wnat_any d2 HD.out.2.2.2.1 (y.den : Int) rfl)).mono ?_
      clear S
      rintro e w3 ⟨⟨_, rfl, pn, ln, Kn, rfl, nn⟩, S, H⟩
      refine iv4 H n1 d1 n2 d2 ?_; clear n1 d1 n2 d2; intro n1 d1 n2 d2; replace HH := HH.trans H; clear H
      go_wp2_with fail
      refine ho hKK ⟨(S.c 0 0 rfl rfl), ⟨(S.c 0 1 rfl rfl), (S.c 1 2 rfl rfl)⟩⟩ fun hS => ?_
      clear hKK KK
      refine wpAnyH_ready (rs := [5, 9]) (by kernel_rfl) (by simp) (AllReadyH.cons (opOf rfl) (fun KK hKK => ?_) (AllReadyH.cons (opOf rfl) (fun KK hKK => ?_) AllReadyH.nil))
      ·
        go_simp; clear hS
        refine (S.call (wmul_to ⟨_, _, _, by rw [hb1.out], n1⟩ ⟨_, _, _, rfl, nn⟩ HD.out.1 HD.out.2.2.2.1 X HD.out.2.2.2.2.1 HD.out.2.2.2.2.2.2.1)).mono ?_
        clear S
        rintro e w4 ⟨⟨_, rfl, p, l, K, rfl, nx⟩, S, H⟩
        refine iv5 H n1 d1 n2 d2 nn ?_; clear n1 d1 n2 d2 nn; intro n1 d1 n2 d2 nn; replace HH := HH.trans H; clear H
        go_wp2_with fail
        refine ho hKK ⟨(S.c 0 0 rfl rfl), ⟨(S.c 0 1 rfl rfl), (S.c 1 2 rfl rfl)⟩⟩ fun hS => ?_
        clear hKK KK
        refine tk 6 hS ?_
        refine tk 7 hS ?_
        refine tk 8 hS ?_
        refine rd 9 fun KK hKK => ?_
        go_simp; clear hS
        have H := S.hnew 25 [.bool false, .slice none 0 0]
        replace S := S.al 25 [.bool false, .slice none 0 0] (w4.heap.size)
        refine iv6 H n1 d1 n2 d2 nn nx ?_; clear n1 d1 n2 d2 nn nx; intro n1 d1 n2 d2 nn nx; replace HH := HH.trans H; clear H
        refine ho hKK ⟨(S.c 0 0 rfl rfl), ⟨(S.c 0 1 rfl rfl), (S.c 1 2 rfl rfl)⟩⟩ fun hS => ?_
        generalize (w4.alloc (.cells #[.bool false, .slice none 0 0] 25)) = w5 at S n1 d1 n2 d2 nn nx HH hS ⊢
        clear hKK KK
        refine rd 10 fun KK hKK => ?_
        have c0 := S.c 4 0 rfl rfl; have f0 := S.f 4 0 rfl; have c1 := S.c 4 1 rfl rfl; have f1 := S.f 4 1 rfl; go_simp; clear hS c0 f0 c1 f1
        have H := S.hset 4 0 (.bool (negB X)) rfl rfl (by intro q n e; cases e)
        replace S := S.set 4 0 (.bool (negB X)) rfl
        refine iv6 H n1 d1 n2 d2 nn nx ?_; clear n1 d1 n2 d2 nn nx; intro n1 d1 n2 d2 nn nx; replace HH := HH.trans H; clear H
        have H := S.hset 4 1 (.slice p l K) rfl rfl (by intro q n e; cases e)
        replace S := S.set 4 1 (.slice p l K) rfl
        refine iv6 H n1 d1 n2 d2 nn nx ?_; clear n1 d1 n2 d2 nn nx; intro n1 d1 n2 d2 nn nx; replace HH := HH.trans H; clear H
        refine ho hKK ⟨(S.c 0 0 rfl rfl), ⟨(S.c 0 1 rfl rfl), (S.c 1 2 rfl rfl)⟩⟩ fun hS => ?_
        generalize ((w5.setCell ⟨w4.heap.size, 0, none⟩ (.bool (negB X))).setCell ⟨w4.heap.size, 1, none⟩ (.slice p l K)) = w6 at S n1 d1 n2 d2 nn nx HH hS ⊢
        clear hKK KK
        refine rd 11 fun KK hKK => ?_
        go_simp
        refine ho hKK hS fun hS => ?_
        clear hKK KK
        refine wpAnyH_done (by kernel_rfl) ?_ _
        go_wp2_with fail
        go_meet
        case rel => exact ⟨w4.heap.size, p, l, K, rfl, rfl, S, nx, HH⟩
      ·
        go_simp; clear hS
        have H := S.hnew 25 [.bool false, .slice none 0 0]
        replace S := S.al 25 [.bool false, .slice none 0 0] (w3.heap.size)
        refine iv5 H n1 d1 n2 d2 nn ?_; clear n1 d1 n2 d2 nn; intro n1 d1 n2 d2 nn; replace HH := HH.trans H; clear H
        refine ho hKK ⟨(S.c 0 0 rfl rfl), ⟨(S.c 0 1 rfl rfl), (S.c 1 2 rfl rfl)⟩⟩ fun hS => ?_
        generalize (w3.alloc (.cells #[.bool false, .slice none 0 0] 25)) = w7 at S n1 d1 n2 d2 nn HH hS ⊢
        clear hKK KK
        refine rd 5 fun KK hKK => ?_
        go_simp; clear hS
        refine (S.call (wmul_to ⟨_, _, _, by rw [hb1.out], n1⟩ ⟨_, _, _, rfl, nn⟩ HD.out.1 HD.out.2.2.2.1 X HD.out.2.2.2.2.1 HD.out.2.2.2.2.2.2.1)).mono ?_
        clear S
        rintro e w8 ⟨⟨_, rfl, p, l, K, rfl, nx⟩, S, H⟩
        refine iv5 H n1 d1 n2 d2 nn ?_; clear n1 d1 n2 d2 nn; intro n1 d1 n2 d2 nn; replace HH := HH.trans H; clear H
        go_wp2_with fail
        refine ho hKK ⟨(S.c 0 0 rfl rfl), ⟨(S.c 0 1 rfl rfl), (S.c 1 2 rfl rfl)⟩⟩ fun hS => ?_
        clear hKK KK
        refine tk 6 hS ?_
        refine tk 7 hS ?_
        refine tk 8 hS ?_
        refine rd 10 fun KK hKK => ?_
        have c0 := S.c 4 0 rfl rfl; have f0 := S.f 4 0 rfl; have c1 := S.c 4 1 rfl rfl; have f1 := S.f 4 1 rfl; go_simp; clear hS c0 f0 c1 f1
        have H := S.hset 4 0 (.bool (negB X)) rfl rfl (by intro q n e; cases e)
        replace S := S.set 4 0 (.bool (negB X)) rfl
        refine iv6 H n1 d1 n2 d2 nn nx ?_; clear n1 d1 n2 d2 nn nx; intro n1 d1 n2 d2 nn nx; replace HH := HH.trans H; clear H
        have H := S.hset 4 1 (.slice p l K) rfl rfl (by intro q n e; cases e)
        replace S := S.set 4 1 (.slice p l K) rfl
        refine iv6 H n1 d1 n2 d2 nn nx ?_; clear n1 d1 n2 d2 nn nx; intro n1 d1 n2 d2 nn nx; replace HH := HH.trans H; clear H
        refine ho hKK ⟨(S.c 0 0 rfl rfl), ⟨(S.c 0 1 rfl rfl), (S.c 1 2 rfl rfl)⟩⟩ fun hS => ?_
        generalize ((w8.setCell ⟨w3.heap.size, 0, none⟩ (.bool (negB X))).setCell ⟨w3.heap.size, 1, none⟩ (.slice p l K)) = w9 at S n1 d1 n2 d2 nn nx HH hS ⊢
        clear hKK KK
        refine rd 11 fun KK hKK => ?_
        go_simp
        refine ho hKK hS fun hS => ?_
        clear hKK KK
        refine wpAnyH_done (by kernel_rfl) ?_ _
        go_wp2_with fail
        go_meet
        case rel => exact ⟨w3.heap.size, p, l, K, rfl, rfl, S, nx, HH⟩
    ·
      go_simp; clear hS
      have H := S.hnew 25 [.bool false, .slice none 0 0]
      replace S := S.al 25 [.bool false, .slice none 0 0] (w2.heap.size)
      refine iv4 H n1 d1 n2 d2 ?_; clear n1 d1 n2 d2; intro n1 d1 n2 d2; replace HH := HH.trans H; clear H
      refine ho hKK ⟨(S.c 0 0 rfl rfl), ⟨(S.c 0 1 rfl rfl), (S.c 1 2 rfl rfl)⟩⟩ fun hS => ?_
      generalize (w2.alloc (.cells #[.bool false, .slice none 0 0] 25)) = w10 at S n1 d1 n2 d2 HH hS ⊢
      clear hKK KK
      refine rd 4 fun KK hKK => ?_
      go_simp; clear hS
      refine (S.call (wnat_any d2 HD.out.2.2.2.1 (y.den : Int) rfl)).mono ?_
      clear S
      rintro e w11 ⟨⟨_, rfl, pn, ln, Kn, rfl, nn⟩, S, H⟩
      refine iv4 H n1 d1 n2 d2 ?_; clear n1 d1 n2 d2; intro n1 d1 n2 d2; replace HH := HH.trans H; clear H
      go_wp2_with fail
      refine ho hKK ⟨(S.c 0 0 rfl rfl), ⟨(S.c 0 1 rfl rfl), (S.c 1 2 rfl rfl)⟩⟩ fun hS => ?_
      clear hKK KK
      refine rd 5 fun KK hKK => ?_
      go_simp; clear hS
      refine (S.call (wmul_to ⟨_, _, _, by rw [hb1.out], n1⟩ ⟨_, _, _, rfl, nn⟩ HD.out.1 HD.out.2.2.2.1 X HD.out.2.2.2.2.1 HD.out.2.2.2.2.2.2.1)).mono ?_
      clear S
      rintro e w12 ⟨⟨_, rfl, p, l, K, rfl, nx⟩, S, H⟩
      refine iv5 H n1 d1 n2 d2 nn ?_; clear n1 d1 n2 d2 nn; intro n1 d1 n2 d2 nn; replace HH := HH.trans H; clear H
      go_wp2_with fail
      refine ho hKK ⟨(S.c 0 0 rfl rfl), ⟨(S.c 0 1 rfl rfl), (S.c 1 2 rfl rfl)⟩⟩ fun hS => ?_
      clear hKK KK
      refine tk 6 hS ?_
      refine tk 7 hS ?_
      refine tk 8 hS ?_
      refine rd 10 fun KK hKK => ?_
      have c0 := S.c 4 0 rfl rfl; have f0 := S.f 4 0 rfl; have c1 := S.c 4 1 rfl rfl; have f1 := S.f 4 1 rfl; go_simp; clear hS c0 f0 c1 f1
      have H := S.hset 4 0 (.bool (negB X)) rfl rfl (by intro q n e; cases e)
      replace S := S.set 4 0 (.bool (negB X)) rfl
      refine iv6 H n1 d1 n2 d2 nn nx ?_; clear n1 d1 n2 d2 nn nx; intro n1 d1 n2 d2 nn nx; replace HH := HH.trans H; clear H
      have H := S.hset 4 1 (.slice p l K) rfl rfl (by intro q n e; cases e)
      replace S := S.set 4 1 (.slice p l K) rfl
      refine iv6 H n1 d1 n2 d2 nn nx ?_; clear n1 d1 n2 d2 nn nx; intro n1 d1 n2 d2 nn nx; replace HH := HH.trans H; clear H
      refine ho hKK ⟨(S.c 0 0 rfl rfl), ⟨(S.c 0 1 rfl rfl), (S.c 1 2 rfl rfl)⟩⟩ fun hS => ?_
      generalize ((w12.setCell ⟨w2.heap.size, 0, none⟩ (.bool (negB X))).setCell ⟨w2.heap.size, 1, none⟩ (.slice p l K)) = w13 at S n1 d1 n2 d2 nn nx HH hS ⊢
      clear hKK KK
      refine rd 11 fun KK hKK => ?_
      go_simp
      refine ho hKK hS fun hS => ?_
      clear hKK KK
      refine wpAnyH_done (by kernel_rfl) ?_ _
      go_wp2_with fail
      go_meet
      case rel => exact ⟨w2.heap.size, p, l, K, rfl, rfl, S, nx, HH⟩
  case rest =>
    obtain ⟨g7, p, l, K, rfl, rfl, S, nx, HH⟩ := hcut
    obtain ⟨w14, rfl⟩ : ∃ W : World, W = wc := ⟨_, rfl⟩
    refine iv4 HH n1 d1 n2 d2 ?_; clear n1 d1 n2 d2; intro n1 d1 n2 d2; clear HH; obtain ⟨c0_0, c0_1, c0_2⟩ := S.c3 0 rfl; obtain ⟨c1_0, c1_1, c1_2⟩ := S.c3 1 rfl; have c2_0 := S.c 2 0 rfl rfl; have c2_1 := S.c 2 1 rfl rfl; have c3_0 := S.c 3 0 rfl rfl; have c3_1 := S.c 3 1 rfl rfl; have c4_0 := S.c 4 0 rfl rfl; have c4_1 := S.c 4 1 rfl rfl
    go_upto_region 2 with fail
    clear c0_0 c0_1 c0_2 c1_0 c1_1 c1_2 c2_0 c2_1 c3_0 c3_1 c4_0 c4_1
    go_cut [9, 10] (fun s9 s10 wx => ∃ g9 pb lb Kb, s9 = .pointer (some ⟨g9, 0, none⟩) ∧ s10 = .int .i64 0 ∧ St w wx [(w.heap.size, 34, [.bool b1, .slice p1 l1 K1, .slice q1 j1 J1]), (w.heap.size + 1, 34, [.bool b2, .slice p2 l2 K2, .slice q2 j2 J2]), (w.heap.size + 1 + 1, 25, [.bool false, .slice none 0 0]), (w.heap.size + 1 + 1 + 1, 25, [.bool false, .slice none 0 0]), (g7, 25, [.bool (negB X), .slice p l K]), (g9, 25, [.bool (negB Y), .slice pb lb Kb])] ∧ IsNat wx (.slice pb lb Kb) Y.natAbs ∧ Hold w14 wx)
    case first =>
      have HH := Hold.drew w14
      refine iv5 HH n1 d1 n2 d2 nx ?_; clear n1 d1 n2 d2 nx; intro n1 d1 n2 d2 nx
      replace S := S.drew
      refine wp_region_held_drew (S := fun W => W.cell? ⟨w.heap.size + 1, 0, none⟩ = some (.bool b2) ∧ W.cell? ⟨w.heap.size + 1, 1, none⟩ = some (.slice p2 l2 K2) ∧ W.cell? ⟨w.heap.size, 2, none⟩ = some (.slice q1 j1 J1)) (by kernel_rfl) ⟨(S.c 1 0 rfl rfl), ⟨(S.c 1 1 rfl rfl), (S.c 0 2 rfl rfl)⟩⟩ (fun hS => ?_)
      generalize w14.drew = w15 at S n1 d1 n2 d2 nx HH hS ⊢
      refine tk 0 hS ?_
      refine tk 1 hS ?_
      refine tk 2 hS ?_
      refine tk 3 hS ?_
      refine wpAnyH_ready (rs := [4, 9]) (by kernel_rfl) (by simp) (AllReadyH.cons (opOf rfl) (fun KK hKK => ?_) (AllReadyH.cons (opOf rfl) (fun KK hKK => ?_) AllReadyH.nil))
      ·
        go_simp; clear hS
        refine (S.call (wnat_any d1 HD.out.2.1 (x.den : Int) rfl)).mono ?_
        clear S
        rintro e w16 ⟨⟨_, rfl, pn, ln, Kn, rfl, nn⟩, S, H⟩
        refine iv5 H n1 d1 n2 d2 nx ?_; clear n1 d1 n2 d2 nx; intro n1 d1 n2 d2 nx; replace HH := HH.trans H; clear H
        go_wp2_with fail
        refine ho hKK ⟨(S.c 1 0 rfl rfl), ⟨(S.c 1 1 rfl rfl), (S.c 0 2 rfl rfl)⟩⟩ fun hS => ?_
        clear hKK KK
        refine wpAnyH_ready (rs := [5, 9]) (by kernel_rfl) (by simp) (AllReadyH.cons (opOf rfl) (fun KK hKK => ?_) (AllReadyH.cons (opOf rfl) (fun KK hKK => ?_) AllReadyH.nil))
        ·
          go_simp; clear hS
          refine (S.call (wmul_to ⟨_, _, _, by rw [hb2.out], n2⟩ ⟨_, _, _, rfl, nn⟩ HD.out.2.2.1 HD.out.2.1 Y HD.out.2.2.2.2.2.1 HD.out.2.2.2.2.2.2.2)).mono ?_
          clear S
          rintro e w17 ⟨⟨_, rfl, pb, lb, Kb, rfl, ny⟩, S, H⟩
          refine iv6 H n1 d1 n2 d2 nx nn ?_; clear n1 d1 n2 d2 nx nn; intro n1 d1 n2 d2 nx nn; replace HH := HH.trans H; clear H
          go_wp2_with fail
          refine ho hKK ⟨(S.c 1 0 rfl rfl), ⟨(S.c 1 1 rfl rfl), (S.c 0 2 rfl rfl)⟩⟩ fun hS => ?_
          clear hKK KK
          refine tk 6 hS ?_
          refine tk 7 hS ?_
          refine tk 8 hS ?_
          refine rd 9 fun KK hKK => ?_
          go_simp; clear hS
          have H := S.hnew 25 [.bool false, .slice none 0 0]
          replace S := S.al 25 [.bool false, .slice none 0 0] (w17.heap.size)
          refine iv7 H n1 d1 n2 d2 nx nn ny ?_; clear n1 d1 n2 d2 nx nn ny; intro n1 d1 n2 d2 nx nn ny; replace HH := HH.trans H; clear H
          refine ho hKK ⟨(S.c 1 0 rfl rfl), ⟨(S.c 1 1 rfl rfl), (S.c 0 2 rfl rfl)⟩⟩ fun hS => ?_
          generalize (w17.alloc (.cells #[.bool false, .slice none 0 0] 25)) = w18 at S n1 d1 n2 d2 nx nn ny HH hS ⊢
          clear hKK KK
          refine rd 10 fun KK hKK => ?_
          have c0 := S.c 5 0 rfl rfl; have f0 := S.f 5 0 rfl; have c1 := S.c 5 1 rfl rfl; have f1 := S.f 5 1 rfl; go_simp; clear hS c0 f0 c1 f1
          have H := S.hset 5 0 (.bool (negB Y)) rfl rfl (by intro q n e; cases e)
          replace S := S.set 5 0 (.bool (negB Y)) rfl
          refine iv7 H n1 d1 n2 d2 nx nn ny ?_; clear n1 d1 n2 d2 nx nn ny; intro n1 d1 n2 d2 nx nn ny; replace HH := HH.trans H; clear H
          have H := S.hset 5 1 (.slice pb lb Kb) rfl rfl (by intro q n e; cases e)
          replace S := S.set 5 1 (.slice pb lb Kb) rfl
          refine iv7 H n1 d1 n2 d2 nx nn ny ?_; clear n1 d1 n2 d2 nx nn ny; intro n1 d1 n2 d2 nx nn ny; replace HH := HH.trans H; clear H
          refine ho hKK ⟨(S.c 1 0 rfl rfl), ⟨(S.c 1 1 rfl rfl), (S.c 0 2 rfl rfl)⟩⟩ fun hS => ?_
          generalize ((w18.setCell ⟨w17.heap.size, 0, none⟩ (.bool (negB Y))).setCell ⟨w17.heap.size, 1, none⟩ (.slice pb lb Kb)) = w19 at S n1 d1 n2 d2 nx nn ny HH hS ⊢
          clear hKK KK
          refine rd 11 fun KK hKK => ?_
          go_simp
          refine ho hKK hS fun hS => ?_
          clear hKK KK
          refine wpAnyH_done (by kernel_rfl) ?_ _
          go_wp2_with fail
          go_meet
          case rel => exact ⟨w17.heap.size, pb, lb, Kb, rfl, rfl, S, ny, HH⟩
        ·
          go_simp; clear hS
          have H := S.hnew 25 [.bool false, .slice none 0 0]
          replace S := S.al 25 [.bool false, .slice none 0 0] (w16.heap.size)
          refine iv6 H n1 d1 n2 d2 nx nn ?_; clear n1 d1 n2 d2 nx nn; intro n1 d1 n2 d2 nx nn; replace HH := HH.trans H; clear H
          refine ho hKK ⟨(S.c 1 0 rfl rfl), ⟨(S.c 1 1 rfl rfl), (S.c 0 2 rfl rfl)⟩⟩ fun hS => ?_
          generalize (w16.alloc (.cells #[.bool false, .slice none 0 0] 25)) = w20 at S n1 d1 n2 d2 nx nn HH hS ⊢
          clear hKK KK
          refine rd 5 fun KK hKK => ?_
          go_simp; clear hS
          refine (S.call (wmul_to ⟨_, _, _, by rw [hb2.out], n2⟩ ⟨_, _, _, rfl, nn⟩ HD.out.2.2.1 HD.out.2.1 Y HD.out.2.2.2.2.2.1 HD.out.2.2.2.2.2.2.2)).mono ?_
          clear S
          rintro e w21 ⟨⟨_, rfl, pb, lb, Kb, rfl, ny⟩, S, H⟩
          refine iv6 H n1 d1 n2 d2 nx nn ?_; clear n1 d1 n2 d2 nx nn; intro n1 d1 n2 d2 nx nn; replace HH := HH.trans H; clear H
          go_wp2_with fail
          refine ho hKK ⟨(S.c 1 0 rfl rfl), ⟨(S.c 1 1 rfl rfl), (S.c 0 2 rfl rfl)⟩⟩ fun hS => ?_
          clear hKK KK
          refine tk 6 hS ?_
          refine tk 7 hS ?_
          refine tk 8 hS ?_
          refine rd 10 fun KK hKK => ?_
          have c0 := S.c 5 0 rfl rfl; have f0 := S.f 5 0 rfl; have c1 := S.c 5 1 rfl rfl; have f1 := S.f 5 1 rfl; go_simp; clear hS c0 f0 c1 f1
          have H := S.hset 5 0 (.bool (negB Y)) rfl rfl (by intro q n e; cases e)
          replace S := S.set 5 0 (.bool (negB Y)) rfl
          refine iv7 H n1 d1 n2 d2 nx nn ny ?_; clear n1 d1 n2 d2 nx nn ny; intro n1 d1 n2 d2 nx nn ny; replace HH := HH.trans H; clear H
          have H := S.hset 5 1 (.slice pb lb Kb) rfl rfl (by intro q n e; cases e)
          replace S := S.set 5 1 (.slice pb lb Kb) rfl
          refine iv7 H n1 d1 n2 d2 nx nn ny ?_; clear n1 d1 n2 d2 nx nn ny; intro n1 d1 n2 d2 nx nn ny; replace HH := HH.trans H; clear H
          refine ho hKK ⟨(S.c 1 0 rfl rfl), ⟨(S.c 1 1 rfl rfl), (S.c 0 2 rfl rfl)⟩⟩ fun hS => ?_
          generalize ((w21.setCell ⟨w16.heap.size, 0, none⟩ (.bool (negB Y))).setCell ⟨w16.heap.size, 1, none⟩ (.slice pb lb Kb)) = w22 at S n1 d1 n2 d2 nx nn ny HH hS ⊢
          clear hKK KK
          refine rd 11 fun KK hKK => ?_
          go_simp
          refine ho hKK hS fun hS => ?_
          clear hKK KK
          refine wpAnyH_done (by kernel_rfl) ?_ _
          go_wp2_with fail
          go_meet
          case rel => exact ⟨w16.heap.size, pb, lb, Kb, rfl, rfl, S, ny, HH⟩
      ·
        go_simp; clear hS
        have H := S.hnew 25 [.bool false, .slice none 0 0]
        replace S := S.al 25 [.bool false, .slice none 0 0] (w15.heap.size)
        refine iv5 H n1 d1 n2 d2 nx ?_; clear n1 d1 n2 d2 nx; intro n1 d1 n2 d2 nx; replace HH := HH.trans H; clear H
        refine ho hKK ⟨(S.c 1 0 rfl rfl), ⟨(S.c 1 1 rfl rfl), (S.c 0 2 rfl rfl)⟩⟩ fun hS => ?_
        generalize (w15.alloc (.cells #[.bool false, .slice none 0 0] 25)) = w23 at S n1 d1 n2 d2 nx HH hS ⊢
        clear hKK KK
        refine rd 4 fun KK hKK => ?_
        go_simp; clear hS
        refine (S.call (wnat_any d1 HD.out.2.1 (x.den : Int) rfl)).mono ?_
        clear S
        rintro e w24 ⟨⟨_, rfl, pn, ln, Kn, rfl, nn⟩, S, H⟩
        refine iv5 H n1 d1 n2 d2 nx ?_; clear n1 d1 n2 d2 nx; intro n1 d1 n2 d2 nx; replace HH := HH.trans H; clear H
        go_wp2_with fail
        refine ho hKK ⟨(S.c 1 0 rfl rfl), ⟨(S.c 1 1 rfl rfl), (S.c 0 2 rfl rfl)⟩⟩ fun hS => ?_
        clear hKK KK
        refine rd 5 fun KK hKK => ?_
        go_simp; clear hS
        refine (S.call (wmul_to ⟨_, _, _, by rw [hb2.out], n2⟩ ⟨_, _, _, rfl, nn⟩ HD.out.2.2.1 HD.out.2.1 Y HD.out.2.2.2.2.2.1 HD.out.2.2.2.2.2.2.2)).mono ?_
        clear S
        rintro e w25 ⟨⟨_, rfl, pb, lb, Kb, rfl, ny⟩, S, H⟩
        refine iv6 H n1 d1 n2 d2 nx nn ?_; clear n1 d1 n2 d2 nx nn; intro n1 d1 n2 d2 nx nn; replace HH := HH.trans H; clear H
        go_wp2_with fail
        refine ho hKK ⟨(S.c 1 0 rfl rfl), ⟨(S.c 1 1 rfl rfl), (S.c 0 2 rfl rfl)⟩⟩ fun hS => ?_
        clear hKK KK
        refine tk 6 hS ?_
        refine tk 7 hS ?_
        refine tk 8 hS ?_
        refine rd 10 fun KK hKK => ?_
        have c0 := S.c 5 0 rfl rfl; have f0 := S.f 5 0 rfl; have c1 := S.c 5 1 rfl rfl; have f1 := S.f 5 1 rfl; go_simp; clear hS c0 f0 c1 f1
        have H := S.hset 5 0 (.bool (negB Y)) rfl rfl (by intro q n e; cases e)
        replace S := S.set 5 0 (.bool (negB Y)) rfl
        refine iv7 H n1 d1 n2 d2 nx nn ny ?_; clear n1 d1 n2 d2 nx nn ny; intro n1 d1 n2 d2 nx nn ny; replace HH := HH.trans H; clear H
        have H := S.hset 5 1 (.slice pb lb Kb) rfl rfl (by intro q n e; cases e)
        replace S := S.set 5 1 (.slice pb lb Kb) rfl
        refine iv7 H n1 d1 n2 d2 nx nn ny ?_; clear n1 d1 n2 d2 nx nn ny; intro n1 d1 n2 d2 nx nn ny; replace HH := HH.trans H; clear H
        refine ho hKK ⟨(S.c 1 0 rfl rfl), ⟨(S.c 1 1 rfl rfl), (S.c 0 2 rfl rfl)⟩⟩ fun hS => ?_
        generalize ((w25.setCell ⟨w15.heap.size, 0, none⟩ (.bool (negB Y))).setCell ⟨w15.heap.size, 1, none⟩ (.slice pb lb Kb)) = w26 at S n1 d1 n2 d2 nx nn ny HH hS ⊢
        clear hKK KK
        refine rd 11 fun KK hKK => ?_
        go_simp
        refine ho hKK hS fun hS => ?_
        clear hKK KK
        refine wpAnyH_done (by kernel_rfl) ?_ _
        go_wp2_with fail
        go_meet
        case rel => exact ⟨w15.heap.size, pb, lb, Kb, rfl, rfl, S, ny, HH⟩
    case rest =>
      obtain ⟨g9, pb, lb, Kb, rfl, rfl, S, ny, HH⟩ := hcut
      obtain ⟨w27, rfl⟩ : ∃ W : World, W = wc := ⟨_, rfl⟩
      refine iv5 HH n1 d1 n2 d2 nx ?_; clear n1 d1 n2 d2 nx; intro n1 d1 n2 d2 nx; clear HH; obtain ⟨c0_0, c0_1, c0_2⟩ := S.c3 0 rfl; obtain ⟨c1_0, c1_1, c1_2⟩ := S.c3 1 rfl; have c2_0 := S.c 2 0 rfl rfl; have c2_1 := S.c 2 1 rfl rfl; have c3_0 := S.c 3 0 rfl rfl; have c3_1 := S.c 3 1 rfl rfl; have c4_0 := S.c 4 0 rfl rfl; have c4_1 := S.c 4 1 rfl rfl; have c5_0 := S.c 5 0 rfl rfl; have c5_1 := S.c 5 1 rfl rfl
      go_upto_region 3 with fail
      clear c0_0 c0_1 c0_2 c1_0 c1_1 c1_2 c2_0 c2_1 c3_0 c3_1 c4_0 c4_1 c5_0 c5_1
      have HH := Hold.drew w27
      refine iv6 HH n1 d1 n2 d2 nx ny ?_; clear n1 d1 n2 d2 nx ny; intro n1 d1 n2 d2 nx ny
      replace S := S.drew
      refine wp_region_held_drew (S := fun W => W.cell? ⟨g7, 0, none⟩ = some (.bool (negB X)) ∧ W.cell? ⟨g7, 1, none⟩ = some (.slice p l K) ∧ W.cell? ⟨g9, 0, none⟩ = some (.bool (negB Y)) ∧ W.cell? ⟨g9, 1, none⟩ = some (.slice pb lb Kb)) (by kernel_rfl) ⟨(S.c 4 0 rfl rfl), ⟨(S.c 4 1 rfl rfl), ⟨(S.c 5 0 rfl rfl), (S.c 5 1 rfl rfl)⟩⟩⟩ (fun hS => ?_)
      generalize w27.drew = w28 at S n1 d1 n2 d2 nx ny HH hS ⊢
      refine tk 0 hS ?_
      refine tk 1 hS ?_
      refine tk 2 hS ?_
      refine tk 3 hS ?_
      refine rd 4 fun KK hKK => ?_
      go_simp; clear hS
      have H := S.hnew 36 [.int .i64 0, .int .i64 0]
      replace S := S.al 36 [.int .i64 0, .int .i64 0] (w28.heap.size)
      refine iv6 H n1 d1 n2 d2 nx ny ?_; clear n1 d1 n2 d2 nx ny; intro n1 d1 n2 d2 nx ny; replace HH := HH.trans H; clear H
      refine ho hKK ⟨(S.c 4 0 rfl rfl), ⟨(S.c 4 1 rfl rfl), ⟨(S.c 5 0 rfl rfl), (S.c 5 1 rfl rfl)⟩⟩⟩ fun hS => ?_
      generalize (w28.alloc (.cells #[.int .i64 0, .int .i64 0] 36)) = w29 at S n1 d1 n2 d2 nx ny HH hS ⊢
      clear hKK KK
      refine rd 5 fun KK hKK => ?_
      go_simp; clear hS
      refine (S.call (or_two S 6 rfl)).mono ?_
      clear S
      rintro e w30 ⟨rfl, S, H⟩
      refine iv6 H n1 d1 n2 d2 nx ny ?_; clear n1 d1 n2 d2 nx ny; intro n1 d1 n2 d2 nx ny; replace HH := HH.trans H; clear H
      go_wp2_with fail
      refine ho hKK ⟨(S.c 4 0 rfl rfl), ⟨(S.c 4 1 rfl rfl), ⟨(S.c 5 0 rfl rfl), (S.c 5 1 rfl rfl)⟩⟩⟩ fun hS => ?_
      clear hKK KK
      refine rd 6 fun KK hKK => ?_
      have c0 := S.c 2 0 rfl rfl; have f0 := S.f 2 0 rfl; have c1 := S.c 2 1 rfl rfl; have f1 := S.f 2 1 rfl; go_simp; clear hS c0 f0 c1 f1
      have H := S.hset 2 0 (.bool (negB X)) rfl rfl (by intro q n e; cases e)
      replace S := S.set 2 0 (.bool (negB X)) rfl
      refine iv6 H n1 d1 n2 d2 nx ny ?_; clear n1 d1 n2 d2 nx ny; intro n1 d1 n2 d2 nx ny; replace HH := HH.trans H; clear H
      have H := S.hset 2 1 (.slice p l K) rfl rfl (by intro q n e; cases e)
      replace S := S.set 2 1 (.slice p l K) rfl
      refine iv6 H n1 d1 n2 d2 nx ny ?_; clear n1 d1 n2 d2 nx ny; intro n1 d1 n2 d2 nx ny; replace HH := HH.trans H; clear H
      refine ho hKK ⟨(S.c 4 0 rfl rfl), ⟨(S.c 4 1 rfl rfl), ⟨(S.c 5 0 rfl rfl), (S.c 5 1 rfl rfl)⟩⟩⟩ fun hS => ?_
      generalize ((w30.setCell ⟨w.heap.size + 1 + 1, 0, none⟩ (.bool (negB X))).setCell ⟨w.heap.size + 1 + 1, 1, none⟩ (.slice p l K)) = w31 at S n1 d1 n2 d2 nx ny HH hS ⊢
      clear hKK KK
      refine rd 7 fun KK hKK => ?_
      have c0 := S.c 3 0 rfl rfl; have f0 := S.f 3 0 rfl; have c1 := S.c 3 1 rfl rfl; have f1 := S.f 3 1 rfl; go_simp; clear hS c0 f0 c1 f1
      have H := S.hset 3 0 (.bool (negB Y)) rfl rfl (by intro q n e; cases e)
      replace S := S.set 3 0 (.bool (negB Y)) rfl
      refine iv6 H n1 d1 n2 d2 nx ny ?_; clear n1 d1 n2 d2 nx ny; intro n1 d1 n2 d2 nx ny; replace HH := HH.trans H; clear H
      have H := S.hset 3 1 (.slice pb lb Kb) rfl rfl (by intro q n e; cases e)
      replace S := S.set 3 1 (.slice pb lb Kb) rfl
      refine iv6 H n1 d1 n2 d2 nx ny ?_; clear n1 d1 n2 d2 nx ny; intro n1 d1 n2 d2 nx ny; replace HH := HH.trans H; clear H
      refine ho hKK ⟨(S.c 4 0 rfl rfl), ⟨(S.c 4 1 rfl rfl), ⟨(S.c 5 0 rfl rfl), (S.c 5 1 rfl rfl)⟩⟩⟩ fun hS => ?_
      generalize ((w31.setCell ⟨w.heap.size + 1 + 1 + 1, 0, none⟩ (.bool (negB Y))).setCell ⟨w.heap.size + 1 + 1 + 1, 1, none⟩ (.slice pb lb Kb)) = w32 at S n1 d1 n2 d2 nx ny HH hS ⊢
      clear hKK KK
      refine rd 8 fun KK hKK => ?_
      go_simp
      refine ho hKK hS fun hS => ?_
      clear hKK KK
      refine wpAnyH_done (by kernel_rfl) ?_ _
      clear hS HH; obtain ⟨c0_0, c0_1, c0_2⟩ := S.c3 0 rfl; obtain ⟨c1_0, c1_1, c1_2⟩ := S.c3 1 rfl; have c2_0 := S.c 2 0 rfl rfl; have c2_1 := S.c 2 1 rfl rfl; have c3_0 := S.c 3 0 rfl rfl; have c3_1 := S.c 3 1 rfl rfl; have c4_0 := S.c 4 0 rfl rfl; have c4_1 := S.c 4 1 rfl rfl; have c5_0 := S.c 5 0 rfl rfl; have c5_1 := S.c 5 1 rfl rfl; go_wp2_with fail; have d2_0 := S.c 2 0 rfl rfl; have d2_1 := S.c 2 1 rfl rfl; have d3_0 := S.c 3 0 rfl rfl; have d3_1 := S.c 3 1 rfl rfl
      exact bodyPost_ret (v := .tuple #[.agg #[.bool (negB X), .slice p l K], .agg #[.bool (negB Y), .slice pb lb Kb], .int .i64 0]) (by simp [results, Tryz.f76, go_sem, d2_0, d2_1, d3_0, d3_1]) rfl (⟨⟨_, _, rfl, ⟨p, l, K, rfl, nx⟩, ⟨pb, lb, Kb, rfl, ny⟩⟩, S.below⟩)
theorem make_parts (n d : Int) (h0 : d ≠ 0) : 0 < Nat.gcd n.natAbs d.natAbs ∧ (Rat.divInt n d).den = d.natAbs / Nat.gcd n.natAbs d.natAbs ∧ (0 < d → (Rat.divInt n d).num = n / ((Nat.gcd n.natAbs d.natAbs : Nat) : Int)) ∧ (d < 0 → (Rat.divInt n d).num = -(n / ((Nat.gcd n.natAbs d.natAbs : Nat) : Int))) := by
  have hg : Int.gcd d n = Nat.gcd n.natAbs d.natAbs := by rw [Int.gcd_eq_natAbs_gcd_natAbs, Nat.gcd_comm]
  have hdvd : ((Nat.gcd n.natAbs d.natAbs : Nat) : Int) ∣ n := Int.ofNat_dvd_left.2 (Nat.gcd_dvd_left _ _)
  refine ⟨Nat.gcd_pos_of_pos_right _ (by omega), ?_, fun h => ?_, fun h => ?_⟩
  · rw [Rat.den_divInt, if_neg h0, hg]
  · rw [Rat.num_divInt, hg, Int.sign_eq_one_of_pos h, Int.one_mul]
  · rw [Rat.num_divInt, hg, Int.sign_eq_neg_one_of_neg h, Int.neg_one_mul, Int.neg_ediv_of_dvd hdvd]
set_option maxRecDepth 100000 in
set_option maxHeartbeats 8000000 in
theorem rmake_any {va vb : Value} {n d : Int} {w : World} (ha : IsInt w va n) (hb : IsInt w vb d) (hn : n.natAbs < maxN) (hd : d.natAbs < maxN) (h0 : d ≠ 0) (q : Rat) (hq : q = Rat.divInt n d) :
    Calls Tryz.prog 92 #[va, vb] w fun e w' => (∃ u, e = .returned (.tuple #[u, .int .i64 0]) ∧ IsRat w' u q) ∧ Below w.heap.size w w' := by
  obtain ⟨p1, l1, K1, rfl, n1⟩ := ha
  obtain ⟨p2, l2, K2, rfl, n2⟩ := hb
  obtain ⟨b1, hb1⟩ : ∃ b1, negB n = b1 := ⟨_, rfl⟩
  obtain ⟨b2, hb2⟩ : ∃ b2, negB d = b2 := ⟨_, rfl⟩
  rw [hb1, hb2]
  obtain ⟨g, hg⟩ : ∃ g, Nat.gcd n.natAbs d.natAbs = g := ⟨_, rfl⟩
  have mp := make_parts n d h0
  rw [hg, ← hq] at mp
  obtain ⟨z, hz⟩ : ∃ z, n / (g : Int) = z := ⟨_, rfl⟩
  obtain ⟨zr, hzr⟩ : ∃ z, n % (g : Int) = z := ⟨_, rfl⟩
  obtain ⟨y, hy⟩ : ∃ z, ((d.natAbs : Nat) : Int) / (g : Int) = z := ⟨_, rfl⟩
  obtain ⟨yr, hyr⟩ : ∃ z, ((d.natAbs : Nat) : Int) % (g : Int) = z := ⟨_, rfl⟩
  rw [hz] at mp
  have hgm : g < maxN := by
    have : g ≤ d.natAbs := hg ▸ Nat.gcd_le_right _ (by omega)
    omega
  have hyd : y.natAbs = q.den := by
    rw [← hy, mp.2.1, ← Int.natCast_ediv, Int.natAbs_natCast]
  have hzm : z.natAbs < maxN := hz ▸ Nat.lt_of_le_of_lt (Int.natAbs_ediv_le_natAbs _ _) hn
  have hg0 : ((g : Nat) : Int) ≠ 0 := by have := mp.1; omega
  have hq1 : b2 = false → q.num = z := fun e => mp.2.2.1 (by
    by_cases h : d < 0
    · rw [negB_pos h, e] at hb2; cases hb2
    · omega)
  have hq2 : b2 = true → q.num = -z := fun e => mp.2.2.2 (by
    by_cases h : d < 0
    · exact h
    · rw [negB_neg h, e] at hb2; cases hb2)
  obtain ⟨s, hs⟩ : ∃ s, d.sign = s := ⟨_, rfl⟩
  have hs0 : ¬ s = 0 := by rw [← hs]; exact fun h => h0 (Int.sign_eq_zero_iff_zero.1 h)
  have hs1 : (s == 0) = false := by simpa using hs0
  have HD := Lib.hid (And.intro hb1 (And.intro hb2 (And.intro hn (And.intro hd hs))))
  have HG := Lib.hid (And.intro hg (And.intro hgm hg0))
  have HZ := Lib.hid (And.intro hz (And.intro hzr (And.intro hy hyr)))
  have HQ := Lib.hid (And.intro hyd (And.intro hzm (And.intro hq1 hq2)))
  clear hb1 hb2 hn hd hs hg hgm hg0 hz hzr hy hyr hyd hzm hq1 hq2 mp hq h0
  have S := (((St.start w).alloc 25 [.bool b1, .slice p1 l1 K1] (w.heap.size)).alloc 25 [.bool b2, .slice p2 l2 K2] (w.heap.size + 1)).alloc 34 [.bool false, .slice none 0 0, .slice none 0 0] (w.heap.size + 1 + 1)
  try simp only [List.cons_append, List.nil_append] at S
  replace n1 := n1.hold S.hold; replace n2 := n2.hold S.hold
  have c0_0 := S.c 0 0 rfl rfl; have c0_1 := S.c 0 1 rfl rfl; have c1_0 := S.c 1 0 rfl rfl; have c1_1 := S.c 1 1 rfl rfl; obtain ⟨c2_0, c2_1, c2_2⟩ := S.c3 2 rfl
  go_enter Tryz.func92, Tryz.ntmps92
  go_wp2_with fail; clear c0_0 c0_1 c1_0 c1_1 c2_0 c2_1 c2_2
  refine (S.call (wsign_any ⟨_, _, _, by rw [HD.out.2.1], n2⟩ HD.out.2.2.2.1 HD.out.2.2.2.2)).mono ?_
  clear S
  rintro e w1 ⟨rfl, S, H⟩
  replace n1 := n1.hold H; replace n2 := n2.hold H
  clear H; have c0_0 := S.c 0 0 rfl rfl; have c0_1 := S.c 0 1 rfl rfl; have c1_0 := S.c 1 0 rfl rfl; have c1_1 := S.c 1 1 rfl rfl; obtain ⟨c2_0, c2_1, c2_2⟩ := S.c3 2 rfl
  go_upto_region 3 with fail
  clear c0_0 c0_1 c1_0 c1_1 c2_0 c2_1 c2_2
  have HH := Hold.drew w1
  replace n1 := n1.hold HH; replace n2 := n2.hold HH
  replace S := S.drew
  refine wp_region_held_drew (S := fun W => W.cell? ⟨w.heap.size, 0, none⟩ = some (.bool b1) ∧ W.cell? ⟨w.heap.size, 1, none⟩ = some (.slice p1 l1 K1) ∧ W.cell? ⟨w.heap.size + 1, 0, none⟩ = some (.bool b2) ∧ W.cell? ⟨w.heap.size + 1, 1, none⟩ = some (.slice p2 l2 K2)) (by kernel_rfl) ⟨(S.c 0 0 rfl rfl), ⟨(S.c 0 1 rfl rfl), ⟨(S.c 1 0 rfl rfl), (S.c 1 1 rfl rfl)⟩⟩⟩ (fun hS => ?_)
  generalize w1.drew = w2 at S n1 n2 HH hS ⊢
  refine tk 0 hS ?_
  refine tk 2 hS ?_
  refine rd 1 fun KK hKK => ?_
  go_simp; clear hS
  refine (S.call (wcheck_any ⟨_, _, _, by rw [HD.out.1], n1⟩ HD.out.2.2.1)).mono ?_
  clear S
  rintro e w3 ⟨rfl, S, H⟩
  replace n1 := n1.hold H; replace n2 := n2.hold H; replace HH := HH.trans H; clear H
  go_wp2_with fail
  refine ho hKK ⟨(S.c 0 0 rfl rfl), ⟨(S.c 0 1 rfl rfl), ⟨(S.c 1 0 rfl rfl), (S.c 1 1 rfl rfl)⟩⟩⟩ fun hS => ?_
  clear hKK KK
  refine rd 3 fun KK hKK => ?_
  go_simp; clear hS
  refine (S.call (wcheck_any ⟨_, _, _, by rw [HD.out.2.1], n2⟩ HD.out.2.2.2.1)).mono ?_
  clear S
  rintro e w4 ⟨rfl, S, H⟩
  replace n1 := n1.hold H; replace n2 := n2.hold H; replace HH := HH.trans H; clear H
  go_wp2_with fail
  refine ho hKK ⟨(S.c 0 0 rfl rfl), ⟨(S.c 0 1 rfl rfl), ⟨(S.c 1 0 rfl rfl), (S.c 1 1 rfl rfl)⟩⟩⟩ fun hS => ?_
  clear hKK KK
  refine rd 4 fun KK hKK => ?_
  go_simp; clear hS
  have H := S.hnew 36 [.int .i64 0, .int .i64 0]
  replace S := S.al 36 [.int .i64 0, .int .i64 0] (w4.heap.size)
  replace n1 := n1.hold H; replace n2 := n2.hold H; replace HH := HH.trans H; clear H
  refine ho hKK ⟨(S.c 0 0 rfl rfl), ⟨(S.c 0 1 rfl rfl), ⟨(S.c 1 0 rfl rfl), (S.c 1 1 rfl rfl)⟩⟩⟩ fun hS => ?_
  generalize (w4.alloc (.cells #[.int .i64 0, .int .i64 0] 36)) = w5 at S n1 n2 HH hS ⊢
  clear hKK KK
  refine rd 5 fun KK hKK => ?_
  go_simp; clear hS
  refine (S.call (or_two S 3 rfl)).mono ?_
  clear S
  rintro e w6 ⟨rfl, S, H⟩
  replace n1 := n1.hold H; replace n2 := n2.hold H; replace HH := HH.trans H; clear H
  go_wp2_with fail
  refine ho hKK ⟨(S.c 0 0 rfl rfl), ⟨(S.c 0 1 rfl rfl), ⟨(S.c 1 0 rfl rfl), (S.c 1 1 rfl rfl)⟩⟩⟩ fun hS => ?_
  clear hKK KK
  refine rd 6 fun KK hKK => ?_
  go_simp
  refine ho hKK hS fun hS => ?_
  clear hKK KK
  refine wpAnyH_done (by kernel_rfl) ?_ _
  clear hS HH; have c0_0 := S.c 0 0 rfl rfl; have c0_1 := S.c 0 1 rfl rfl; have c1_0 := S.c 1 0 rfl rfl; have c1_1 := S.c 1 1 rfl rfl; obtain ⟨c2_0, c2_1, c2_2⟩ := S.c3 2 rfl; go_wp2_with fail; clear c0_0 c0_1 c1_0 c1_1 c2_0 c2_1 c2_2
  refine (S.call (gcd_any n1 n2 HD.out.2.2.1 HD.out.2.2.2.1)).mono ?_
  clear S
  rintro e w7 ⟨⟨vg, rfl, ng⟩, S, H⟩
  replace n1 := n1.hold H; replace n2 := n2.hold H
  clear H; have c0_0 := S.c 0 0 rfl rfl; have c0_1 := S.c 0 1 rfl rfl; have c1_0 := S.c 1 0 rfl rfl; have c1_1 := S.c 1 1 rfl rfl; obtain ⟨c2_0, c2_1, c2_2⟩ := S.c3 2 rfl
  rw [HG.out.1] at ng
  go_wp2_with fail; clear c0_0 c0_1 c1_0 c1_1 c2_0 c2_1 c2_2
  refine (S.call (wnat_any ng HG.out.2.1 (g : Int) rfl)).mono ?_
  clear S
  rintro e w8 ⟨⟨_, rfl, pc, lc, Kc, rfl, nc⟩, S, H⟩
  refine iv3 H n1 n2 ng ?_; clear n1 n2 ng; intro n1 n2 ng
  clear H; have c0_0 := S.c 0 0 rfl rfl; have c0_1 := S.c 0 1 rfl rfl; have c1_0 := S.c 1 0 rfl rfl; have c1_1 := S.c 1 1 rfl rfl; obtain ⟨c2_0, c2_1, c2_2⟩ := S.c3 2 rfl
  have H := S.hnew 25 [.bool (negB (g : Int)), .slice pc lc Kc]
  replace S := S.al 25 [.bool (negB (g : Int)), .slice pc lc Kc] (w8.heap.size)
  refine iv4 H n1 n2 ng nc ?_; clear n1 n2 ng nc; intro n1 n2 ng nc
  clear H; clear c0_0 c0_1 c1_0 c1_1 c2_0 c2_1 c2_2; have c0_0 := S.c 0 0 rfl rfl; have c0_1 := S.c 0 1 rfl rfl; have c1_0 := S.c 1 0 rfl rfl; have c1_1 := S.c 1 1 rfl rfl; obtain ⟨c2_0, c2_1, c2_2⟩ := S.c3 2 rfl; have c4_0 := S.c 4 0 rfl rfl; have c4_1 := S.c 4 1 rfl rfl; go_wp2_with fail; clear c0_0 c0_1 c1_0 c1_1 c2_0 c2_1 c2_2 c4_0 c4_1
  refine (S.call (wdiv_to ⟨_, _, _, by rw [HD.out.1], n1⟩ ⟨_, _, _, rfl, nc⟩ HD.out.2.2.1 HG.out.2.1 z zr HG.out.2.2 HZ.out.1 HZ.out.2.1)).mono ?_
  clear S
  rintro e w9 ⟨⟨_, _, rfl, ⟨pz, lz, Kz, rfl, nz⟩, ⟨pr, lr, Kr, rfl, nr⟩⟩, S, H⟩
  refine iv4 H n1 n2 ng nc ?_; clear n1 n2 ng nc; intro n1 n2 ng nc
  clear H; have c0_0 := S.c 0 0 rfl rfl; have c0_1 := S.c 0 1 rfl rfl; have c1_0 := S.c 1 0 rfl rfl; have c1_1 := S.c 1 1 rfl rfl; obtain ⟨c2_0, c2_1, c2_2⟩ := S.c3 2 rfl; have c4_0 := S.c 4 0 rfl rfl; have c4_1 := S.c 4 1 rfl rfl
  have H := S.hnew 25 [.bool (negB z), .slice pz lz Kz]
  replace S := S.al 25 [.bool (negB z), .slice pz lz Kz] (w9.heap.size)
  refine iv5 H n1 n2 ng nc nz ?_; clear n1 n2 ng nc nz; intro n1 n2 ng nc nz
  clear H
  have H := S.hnew 25 [.bool (negB zr), .slice pr lr Kr]
  replace S := S.al 25 [.bool (negB zr), .slice pr lr Kr] (w9.heap.size + 1)
  refine iv5 H n1 n2 ng nc nz ?_; clear n1 n2 ng nc nz; intro n1 n2 ng nc nz
  clear H; clear c0_0 c0_1 c1_0 c1_1 c2_0 c2_1 c2_2 c4_0 c4_1; have c0_0 := S.c 0 0 rfl rfl; have c0_1 := S.c 0 1 rfl rfl; have c1_0 := S.c 1 0 rfl rfl; have c1_1 := S.c 1 1 rfl rfl; obtain ⟨c2_0, c2_1, c2_2⟩ := S.c3 2 rfl; have c4_0 := S.c 4 0 rfl rfl; have c4_1 := S.c 4 1 rfl rfl; have c5_0 := S.c 5 0 rfl rfl; have c5_1 := S.c 5 1 rfl rfl
  go_upto_region 8 with fail
  clear c0_0 c0_1 c1_0 c1_1 c2_0 c2_1 c2_2 c4_0 c4_1 c5_0 c5_1
  generalize (.tuple #[.agg #[.bool (negB z), .slice pz lz Kz], .agg #[.bool (negB zr), .slice pr lr Kr], .int .i64 0] : Value) = x1
  generalize (.agg #[.bool (negB z), .slice pz lz Kz] : Value) = x2
  generalize (.agg #[.bool (negB zr), .slice pr lr Kr] : Value) = x3
  generalize (.agg #[.bool b1, .slice p1 l1 K1] : Value) = x4
  generalize ((w9.alloc (.cells #[.bool (negB z), .slice pz lz Kz] 25)).alloc (.cells #[.bool (negB zr), .slice pr lr Kr] 25)) = w10 at S n1 n2 ng nc nz ⊢
  go_cut [11] (fun s11 wx => ∃ g11 py ly Ky, s11 = .pointer (some ⟨g11, 0, none⟩) ∧ St w wx [(w.heap.size, 25, [.bool b1, .slice p1 l1 K1]), (w.heap.size + 1, 25, [.bool b2, .slice p2 l2 K2]), (w.heap.size + 1 + 1, 34, [.bool false, .slice none 0 0, .slice none 0 0]), (w4.heap.size, 36, [.int .i64 0, .int .i64 0]), (w8.heap.size, 25, [.bool (negB (g : Int)), .slice pc lc Kc]), (w9.heap.size, 25, [.bool (negB z), .slice pz lz Kz]), (w9.heap.size + 1, 25, [.bool (negB zr), .slice pr lr Kr]), (g11, 25, [.bool (negB y), .slice py ly Ky])] ∧ IsNat wx (.slice py ly Ky) y.natAbs ∧ Hold w10 wx)
  case first =>
    have HH := Hold.drew w10
    refine iv5 HH n1 n2 ng nc nz ?_; clear n1 n2 ng nc nz; intro n1 n2 ng nc nz
    replace S := S.drew
    refine wp_region_held_drew (S := fun W => W.cell? ⟨w.heap.size + 1, 0, none⟩ = some (.bool b2) ∧ W.cell? ⟨w.heap.size + 1, 1, none⟩ = some (.slice p2 l2 K2) ∧ W.cell? ⟨w8.heap.size, 0, none⟩ = some (.bool (negB (g : Int))) ∧ W.cell? ⟨w8.heap.size, 1, none⟩ = some (.slice pc lc Kc)) (by kernel_rfl) ⟨(S.c 1 0 rfl rfl), ⟨(S.c 1 1 rfl rfl), ⟨(S.c 4 0 rfl rfl), (S.c 4 1 rfl rfl)⟩⟩⟩ (fun hS => ?_)
    generalize w10.drew = w11 at S n1 n2 ng nc nz HH hS ⊢
    refine tk 0 hS ?_
    refine tk 2 hS ?_
    refine wpAnyH_ready (rs := [1, 8, 9]) (by kernel_rfl) (by simp) (AllReadyH.cons (opOf rfl) (fun KK hKK => ?_) (AllReadyH.cons (opOf rfl) (fun KK hKK => ?_) (AllReadyH.cons (opOf rfl) (fun KK hKK => ?_) AllReadyH.nil)))
    ·
      go_simp; clear hS
      refine (S.call (wabs_any ⟨_, _, _, by rw [HD.out.2.1], n2⟩ HD.out.2.2.2.1 ((d.natAbs : Nat) : Int) rfl)).mono ?_
      clear S
      rintro e w12 ⟨⟨_, rfl, pa, la, Ka, rfl, na⟩, S, H⟩
      refine iv5 H n1 n2 ng nc nz ?_; clear n1 n2 ng nc nz; intro n1 n2 ng nc nz; replace HH := HH.trans H; clear H
      go_wp2_with fail
      refine ho hKK ⟨(S.c 1 0 rfl rfl), ⟨(S.c 1 1 rfl rfl), ⟨(S.c 4 0 rfl rfl), (S.c 4 1 rfl rfl)⟩⟩⟩ fun hS => ?_
      clear hKK KK
      refine wpAnyH_ready (rs := [3, 8, 9]) (by kernel_rfl) (by simp) (AllReadyH.cons (opOf rfl) (fun KK hKK => ?_) (AllReadyH.cons (opOf rfl) (fun KK hKK => ?_) (AllReadyH.cons (opOf rfl) (fun KK hKK => ?_) AllReadyH.nil)))
      ·
        go_simp; clear hS
        refine (S.call (wdiv_to ⟨_, _, _, rfl, na⟩ ⟨_, _, _, rfl, nc⟩ HD.out.2.2.2.1 HG.out.2.1 y yr HG.out.2.2 HZ.out.2.2.1 HZ.out.2.2.2)).mono ?_
        clear S
        rintro e w13 ⟨⟨_, _, rfl, ⟨py, ly, Ky, rfl, ny⟩, ⟨pv, lv, Kv, rfl, nv⟩⟩, S, H⟩
        refine iv6 H n1 n2 ng nc nz na ?_; clear n1 n2 ng nc nz na; intro n1 n2 ng nc nz na; replace HH := HH.trans H; clear H
        go_wp2_with fail
        refine ho hKK ⟨(S.c 1 0 rfl rfl), ⟨(S.c 1 1 rfl rfl), ⟨(S.c 4 0 rfl rfl), (S.c 4 1 rfl rfl)⟩⟩⟩ fun hS => ?_
        clear hKK KK
        refine tk 4 hS ?_
        refine tk 5 hS ?_
        refine tk 6 hS ?_
        refine tk 7 hS ?_
        refine wpAnyH_ready (rs := [8, 9]) (by kernel_rfl) (by simp) (AllReadyH.cons (opOf rfl) (fun KK hKK => ?_) (AllReadyH.cons (opOf rfl) (fun KK hKK => ?_) AllReadyH.nil))
        ·
          go_simp; clear hS
          have H := S.hnew 25 [.bool false, .slice none 0 0]
          replace S := S.al 25 [.bool false, .slice none 0 0] (w13.heap.size)
          refine iv7 H n1 n2 ng nc nz na ny ?_; clear n1 n2 ng nc nz na ny; intro n1 n2 ng nc nz na ny; replace HH := HH.trans H; clear H
          refine ho hKK ⟨(S.c 1 0 rfl rfl), ⟨(S.c 1 1 rfl rfl), ⟨(S.c 4 0 rfl rfl), (S.c 4 1 rfl rfl)⟩⟩⟩ fun hS => ?_
          generalize (w13.alloc (.cells #[.bool false, .slice none 0 0] 25)) = w14 at S n1 n2 ng nc nz na ny HH hS ⊢
          clear hKK KK
          refine rd 9 fun KK hKK => ?_
          go_simp; clear hS
          have H := S.hnew 25 [.bool false, .slice none 0 0]
          replace S := S.al 25 [.bool false, .slice none 0 0] (w14.heap.size)
          refine iv7 H n1 n2 ng nc nz na ny ?_; clear n1 n2 ng nc nz na ny; intro n1 n2 ng nc nz na ny; replace HH := HH.trans H; clear H
          refine ho hKK ⟨(S.c 1 0 rfl rfl), ⟨(S.c 1 1 rfl rfl), ⟨(S.c 4 0 rfl rfl), (S.c 4 1 rfl rfl)⟩⟩⟩ fun hS => ?_
          generalize (w14.alloc (.cells #[.bool false, .slice none 0 0] 25)) = w15 at S n1 n2 ng nc nz na ny HH hS ⊢
          clear hKK KK
          refine rd 10 fun KK hKK => ?_
          have c0 := S.c 7 0 rfl rfl; have f0 := S.f 7 0 rfl; have c1 := S.c 7 1 rfl rfl; have f1 := S.f 7 1 rfl; go_simp; clear hS c0 f0 c1 f1
          have H := S.hset 7 0 (.bool (negB y)) rfl rfl (by intro q n e; cases e)
          replace S := S.set 7 0 (.bool (negB y)) rfl
          refine iv7 H n1 n2 ng nc nz na ny ?_; clear n1 n2 ng nc nz na ny; intro n1 n2 ng nc nz na ny; replace HH := HH.trans H; clear H
          have H := S.hset 7 1 (.slice py ly Ky) rfl rfl (by intro q n e; cases e)
          replace S := S.set 7 1 (.slice py ly Ky) rfl
          refine iv7 H n1 n2 ng nc nz na ny ?_; clear n1 n2 ng nc nz na ny; intro n1 n2 ng nc nz na ny; replace HH := HH.trans H; clear H
          refine ho hKK ⟨(S.c 1 0 rfl rfl), ⟨(S.c 1 1 rfl rfl), ⟨(S.c 4 0 rfl rfl), (S.c 4 1 rfl rfl)⟩⟩⟩ fun hS => ?_
          generalize ((w15.setCell ⟨w13.heap.size, 0, none⟩ (.bool (negB y))).setCell ⟨w13.heap.size, 1, none⟩ (.slice py ly Ky)) = w16 at S n1 n2 ng nc nz na ny HH hS ⊢
          clear hKK KK
          refine rd 11 fun KK hKK => ?_
          have c0 := S.c 8 0 rfl rfl; have f0 := S.f 8 0 rfl; have c1 := S.c 8 1 rfl rfl; have f1 := S.f 8 1 rfl; go_simp; clear hS c0 f0 c1 f1
          have H := S.hset 8 0 (.bool (negB yr)) rfl rfl (by intro q n e; cases e)
          replace S := S.set 8 0 (.bool (negB yr)) rfl
          refine iv7 H n1 n2 ng nc nz na ny ?_; clear n1 n2 ng nc nz na ny; intro n1 n2 ng nc nz na ny; replace HH := HH.trans H; clear H
          have H := S.hset 8 1 (.slice pv lv Kv) rfl rfl (by intro q n e; cases e)
          replace S := S.set 8 1 (.slice pv lv Kv) rfl
          refine iv7 H n1 n2 ng nc nz na ny ?_; clear n1 n2 ng nc nz na ny; intro n1 n2 ng nc nz na ny; replace HH := HH.trans H; clear H
          refine ho hKK ⟨(S.c 1 0 rfl rfl), ⟨(S.c 1 1 rfl rfl), ⟨(S.c 4 0 rfl rfl), (S.c 4 1 rfl rfl)⟩⟩⟩ fun hS => ?_
          generalize ((w16.setCell ⟨w14.heap.size, 0, none⟩ (.bool (negB yr))).setCell ⟨w14.heap.size, 1, none⟩ (.slice pv lv Kv)) = w17 at S n1 n2 ng nc nz na ny HH hS ⊢
          clear hKK KK
          refine rd 12 fun KK hKK => ?_
          go_simp
          refine ho hKK hS fun hS => ?_
          clear hKK KK
          refine wpAnyH_done (by kernel_rfl) ?_ _
          go_wp2_with fail
          go_meet
          case rel => exact ⟨w13.heap.size, py, ly, Ky, rfl, S.sub (.cons_cons _ (.cons_cons _ (.cons_cons _ (.cons_cons _ (.cons_cons _ (.cons_cons _ (.cons_cons _ (.cons_cons _ (.cons _ (.slnil)))))))))), ny, HH⟩
        ·
          go_simp; clear hS
          have H := S.hnew 25 [.bool false, .slice none 0 0]
          replace S := S.al 25 [.bool false, .slice none 0 0] (w13.heap.size)
          refine iv7 H n1 n2 ng nc nz na ny ?_; clear n1 n2 ng nc nz na ny; intro n1 n2 ng nc nz na ny; replace HH := HH.trans H; clear H
          refine ho hKK ⟨(S.c 1 0 rfl rfl), ⟨(S.c 1 1 rfl rfl), ⟨(S.c 4 0 rfl rfl), (S.c 4 1 rfl rfl)⟩⟩⟩ fun hS => ?_
          generalize (w13.alloc (.cells #[.bool false, .slice none 0 0] 25)) = w18 at S n1 n2 ng nc nz na ny HH hS ⊢
          clear hKK KK
          refine rd 8 fun KK hKK => ?_
          go_simp; clear hS
          have H := S.hnew 25 [.bool false, .slice none 0 0]
          replace S := S.al 25 [.bool false, .slice none 0 0] (w18.heap.size)
          refine iv7 H n1 n2 ng nc nz na ny ?_; clear n1 n2 ng nc nz na ny; intro n1 n2 ng nc nz na ny; replace HH := HH.trans H; clear H
          refine ho hKK ⟨(S.c 1 0 rfl rfl), ⟨(S.c 1 1 rfl rfl), ⟨(S.c 4 0 rfl rfl), (S.c 4 1 rfl rfl)⟩⟩⟩ fun hS => ?_
          generalize (w18.alloc (.cells #[.bool false, .slice none 0 0] 25)) = w19 at S n1 n2 ng nc nz na ny HH hS ⊢
          clear hKK KK
          refine rd 10 fun KK hKK => ?_
          have c0 := S.c 8 0 rfl rfl; have f0 := S.f 8 0 rfl; have c1 := S.c 8 1 rfl rfl; have f1 := S.f 8 1 rfl; go_simp; clear hS c0 f0 c1 f1
          have H := S.hset 8 0 (.bool (negB y)) rfl rfl (by intro q n e; cases e)
          replace S := S.set 8 0 (.bool (negB y)) rfl
          refine iv7 H n1 n2 ng nc nz na ny ?_; clear n1 n2 ng nc nz na ny; intro n1 n2 ng nc nz na ny; replace HH := HH.trans H; clear H
          have H := S.hset 8 1 (.slice py ly Ky) rfl rfl (by intro q n e; cases e)
          replace S := S.set 8 1 (.slice py ly Ky) rfl
          refine iv7 H n1 n2 ng nc nz na ny ?_; clear n1 n2 ng nc nz na ny; intro n1 n2 ng nc nz na ny; replace HH := HH.trans H; clear H
          refine ho hKK ⟨(S.c 1 0 rfl rfl), ⟨(S.c 1 1 rfl rfl), ⟨(S.c 4 0 rfl rfl), (S.c 4 1 rfl rfl)⟩⟩⟩ fun hS => ?_
          generalize ((w19.setCell ⟨w18.heap.size, 0, none⟩ (.bool (negB y))).setCell ⟨w18.heap.size, 1, none⟩ (.slice py ly Ky)) = w20 at S n1 n2 ng nc nz na ny HH hS ⊢
          clear hKK KK
          refine rd 11 fun KK hKK => ?_
          have c0 := S.c 7 0 rfl rfl; have f0 := S.f 7 0 rfl; have c1 := S.c 7 1 rfl rfl; have f1 := S.f 7 1 rfl; go_simp; clear hS c0 f0 c1 f1
          have H := S.hset 7 0 (.bool (negB yr)) rfl rfl (by intro q n e; cases e)
          replace S := S.set 7 0 (.bool (negB yr)) rfl
          refine iv7 H n1 n2 ng nc nz na ny ?_; clear n1 n2 ng nc nz na ny; intro n1 n2 ng nc nz na ny; replace HH := HH.trans H; clear H
          have H := S.hset 7 1 (.slice pv lv Kv) rfl rfl (by intro q n e; cases e)
          replace S := S.set 7 1 (.slice pv lv Kv) rfl
          refine iv7 H n1 n2 ng nc nz na ny ?_; clear n1 n2 ng nc nz na ny; intro n1 n2 ng nc nz na ny; replace HH := HH.trans H; clear H
          refine ho hKK ⟨(S.c 1 0 rfl rfl), ⟨(S.c 1 1 rfl rfl), ⟨(S.c 4 0 rfl rfl), (S.c 4 1 rfl rfl)⟩⟩⟩ fun hS => ?_
          generalize ((w20.setCell ⟨w13.heap.size, 0, none⟩ (.bool (negB yr))).setCell ⟨w13.heap.size, 1, none⟩ (.slice pv lv Kv)) = w21 at S n1 n2 ng nc nz na ny HH hS ⊢
          clear hKK KK
          refine rd 12 fun KK hKK => ?_
          go_simp
          refine ho hKK hS fun hS => ?_
          clear hKK KK
          refine wpAnyH_done (by kernel_rfl) ?_ _
          go_wp2_with fail
          go_meet
          case rel => exact ⟨w18.heap.size, py, ly, Ky, rfl, S.sub (.cons_cons _ (.cons_cons _ (.cons_cons _ (.cons_cons _ (.cons_cons _ (.cons_cons _ (.cons_cons _ (.cons _ (.cons_cons _ (.slnil)))))))))), ny, HH⟩
      ·
        go_simp; clear hS
        have H := S.hnew 25 [.bool false, .slice none 0 0]
        replace S := S.al 25 [.bool false, .slice none 0 0] (w12.heap.size)
        refine iv6 H n1 n2 ng nc nz na ?_; clear n1 n2 ng nc nz na; intro n1 n2 ng nc nz na; replace HH := HH.trans H; clear H
        refine ho hKK ⟨(S.c 1 0 rfl rfl), ⟨(S.c 1 1 rfl rfl), ⟨(S.c 4 0 rfl rfl), (S.c 4 1 rfl rfl)⟩⟩⟩ fun hS => ?_
        generalize (w12.alloc (.cells #[.bool false, .slice none 0 0] 25)) = w22 at S n1 n2 ng nc nz na HH hS ⊢
        clear hKK KK
        refine wpAnyH_ready (rs := [3, 9]) (by kernel_rfl) (by simp) (AllReadyH.cons (opOf rfl) (fun KK hKK => ?_) (AllReadyH.cons (opOf rfl) (fun KK hKK => ?_) AllReadyH.nil))
        ·
          go_simp; clear hS
          refine (S.call (wdiv_to ⟨_, _, _, rfl, na⟩ ⟨_, _, _, rfl, nc⟩ HD.out.2.2.2.1 HG.out.2.1 y yr HG.out.2.2 HZ.out.2.2.1 HZ.out.2.2.2)).mono ?_
          clear S
          rintro e w23 ⟨⟨_, _, rfl, ⟨py, ly, Ky, rfl, ny⟩, ⟨pv, lv, Kv, rfl, nv⟩⟩, S, H⟩
          refine iv6 H n1 n2 ng nc nz na ?_; clear n1 n2 ng nc nz na; intro n1 n2 ng nc nz na; replace HH := HH.trans H; clear H
          go_wp2_with fail
          refine ho hKK ⟨(S.c 1 0 rfl rfl), ⟨(S.c 1 1 rfl rfl), ⟨(S.c 4 0 rfl rfl), (S.c 4 1 rfl rfl)⟩⟩⟩ fun hS => ?_
          clear hKK KK
          refine tk 4 hS ?_
          refine tk 5 hS ?_
          refine tk 6 hS ?_
          refine tk 7 hS ?_
          refine rd 9 fun KK hKK => ?_
          go_simp; clear hS
          have H := S.hnew 25 [.bool false, .slice none 0 0]
          replace S := S.al 25 [.bool false, .slice none 0 0] (w23.heap.size)
          refine iv7 H n1 n2 ng nc nz na ny ?_; clear n1 n2 ng nc nz na ny; intro n1 n2 ng nc nz na ny; replace HH := HH.trans H; clear H
          refine ho hKK ⟨(S.c 1 0 rfl rfl), ⟨(S.c 1 1 rfl rfl), ⟨(S.c 4 0 rfl rfl), (S.c 4 1 rfl rfl)⟩⟩⟩ fun hS => ?_
          generalize (w23.alloc (.cells #[.bool false, .slice none 0 0] 25)) = w24 at S n1 n2 ng nc nz na ny HH hS ⊢
          clear hKK KK
          refine rd 10 fun KK hKK => ?_
          have c0 := S.c 7 0 rfl rfl; have f0 := S.f 7 0 rfl; have c1 := S.c 7 1 rfl rfl; have f1 := S.f 7 1 rfl; go_simp; clear hS c0 f0 c1 f1
          have H := S.hset 7 0 (.bool (negB y)) rfl rfl (by intro q n e; cases e)
          replace S := S.set 7 0 (.bool (negB y)) rfl
          refine iv7 H n1 n2 ng nc nz na ny ?_; clear n1 n2 ng nc nz na ny; intro n1 n2 ng nc nz na ny; replace HH := HH.trans H; clear H
          have H := S.hset 7 1 (.slice py ly Ky) rfl rfl (by intro q n e; cases e)
          replace S := S.set 7 1 (.slice py ly Ky) rfl
          refine iv7 H n1 n2 ng nc nz na ny ?_; clear n1 n2 ng nc nz na ny; intro n1 n2 ng nc nz na ny; replace HH := HH.trans H; clear H
          refine ho hKK ⟨(S.c 1 0 rfl rfl), ⟨(S.c 1 1 rfl rfl), ⟨(S.c 4 0 rfl rfl), (S.c 4 1 rfl rfl)⟩⟩⟩ fun hS => ?_
          generalize ((w24.setCell ⟨w12.heap.size, 0, none⟩ (.bool (negB y))).setCell ⟨w12.heap.size, 1, none⟩ (.slice py ly Ky)) = w25 at S n1 n2 ng nc nz na ny HH hS ⊢
          clear hKK KK
          refine rd 11 fun KK hKK => ?_
          have c0 := S.c 8 0 rfl rfl; have f0 := S.f 8 0 rfl; have c1 := S.c 8 1 rfl rfl; have f1 := S.f 8 1 rfl; go_simp; clear hS c0 f0 c1 f1
          have H := S.hset 8 0 (.bool (negB yr)) rfl rfl (by intro q n e; cases e)
          replace S := S.set 8 0 (.bool (negB yr)) rfl
          refine iv7 H n1 n2 ng nc nz na ny ?_; clear n1 n2 ng nc nz na ny; intro n1 n2 ng nc nz na ny; replace HH := HH.trans H; clear H
          have H := S.hset 8 1 (.slice pv lv Kv) rfl rfl (by intro q n e; cases e)
          replace S := S.set 8 1 (.slice pv lv Kv) rfl
          refine iv7 H n1 n2 ng nc nz na ny ?_; clear n1 n2 ng nc nz na ny; intro n1 n2 ng nc nz na ny; replace HH := HH.trans H; clear H
          refine ho hKK ⟨(S.c 1 0 rfl rfl), ⟨(S.c 1 1 rfl rfl), ⟨(S.c 4 0 rfl rfl), (S.c 4 1 rfl rfl)⟩⟩⟩ fun hS => ?_
          generalize ((w25.setCell ⟨w23.heap.size, 0, none⟩ (.bool (negB yr))).setCell ⟨w23.heap.size, 1, none⟩ (.slice pv lv Kv)) = w26 at S n1 n2 ng nc nz na ny HH hS ⊢
          clear hKK KK
          refine rd 12 fun KK hKK => ?_
          go_simp
          refine ho hKK hS fun hS => ?_
          clear hKK KK
          refine wpAnyH_done (by kernel_rfl) ?_ _
          go_wp2_with fail
          go_meet
          case rel => exact ⟨w12.heap.size, py, ly, Ky, rfl, S.sub (.cons_cons _ (.cons_cons _ (.cons_cons _ (.cons_cons _ (.cons_cons _ (.cons_cons _ (.cons_cons _ (.cons_cons _ (.cons _ (.slnil)))))))))), ny, HH⟩
        ·
          go_simp; clear hS
          have H := S.hnew 25 [.bool false, .slice none 0 0]
          replace S := S.al 25 [.bool false, .slice none 0 0] (w22.heap.size)
          refine iv6 H n1 n2 ng nc nz na ?_; clear n1 n2 ng nc nz na; intro n1 n2 ng nc nz na; replace HH := HH.trans H; clear H
          refine ho hKK ⟨(S.c 1 0 rfl rfl), ⟨(S.c 1 1 rfl rfl), ⟨(S.c 4 0 rfl rfl), (S.c 4 1 rfl rfl)⟩⟩⟩ fun hS => ?_
          generalize (w22.alloc (.cells #[.bool false, .slice none 0 0] 25)) = w27 at S n1 n2 ng nc nz na HH hS ⊢
          clear hKK KK
          refine rd 3 fun KK hKK => ?_
          go_simp; clear hS
          refine (S.call (wdiv_to ⟨_, _, _, rfl, na⟩ ⟨_, _, _, rfl, nc⟩ HD.out.2.2.2.1 HG.out.2.1 y yr HG.out.2.2 HZ.out.2.2.1 HZ.out.2.2.2)).mono ?_
          clear S
          rintro e w28 ⟨⟨_, _, rfl, ⟨py, ly, Ky, rfl, ny⟩, ⟨pv, lv, Kv, rfl, nv⟩⟩, S, H⟩
          refine iv6 H n1 n2 ng nc nz na ?_; clear n1 n2 ng nc nz na; intro n1 n2 ng nc nz na; replace HH := HH.trans H; clear H
          go_wp2_with fail
          refine ho hKK ⟨(S.c 1 0 rfl rfl), ⟨(S.c 1 1 rfl rfl), ⟨(S.c 4 0 rfl rfl), (S.c 4 1 rfl rfl)⟩⟩⟩ fun hS => ?_
          clear hKK KK
          refine tk 4 hS ?_
          refine tk 5 hS ?_
          refine tk 6 hS ?_
          refine tk 7 hS ?_
          refine rd 10 fun KK hKK => ?_
          have c0 := S.c 7 0 rfl rfl; have f0 := S.f 7 0 rfl; have c1 := S.c 7 1 rfl rfl; have f1 := S.f 7 1 rfl; go_simp; clear hS c0 f0 c1 f1
          have H := S.hset 7 0 (.bool (negB y)) rfl rfl (by intro q n e; cases e)
          replace S := S.set 7 0 (.bool (negB y)) rfl
          refine iv7 H n1 n2 ng nc nz na ny ?_; clear n1 n2 ng nc nz na ny; intro n1 n2 ng nc nz na ny; replace HH := HH.trans H; clear H
          have H := S.hset 7 1 (.slice py ly Ky) rfl rfl (by intro q n e; cases e)
          replace S := S.set 7 1 (.slice py ly Ky) rfl
          refine iv7 H n1 n2 ng nc nz na ny ?_; clear n1 n2 ng nc nz na ny; intro n1 n2 ng nc nz na ny; replace HH := HH.trans H; clear H
          refine ho hKK ⟨(S.c 1 0 rfl rfl), ⟨(S.c 1 1 rfl rfl), ⟨(S.c 4 0 rfl rfl), (S.c 4 1 rfl rfl)⟩⟩⟩ fun hS => ?_
          generalize ((w28.setCell ⟨w12.heap.size, 0, none⟩ (.bool (negB y))).setCell ⟨w12.heap.size, 1, none⟩ (.slice py ly Ky)) = w29 at S n1 n2 ng nc nz na ny HH hS ⊢
          clear hKK KK
          refine rd 11 fun KK hKK => ?_
          have c0 := S.c 8 0 rfl rfl; have f0 := S.f 8 0 rfl; have c1 := S.c 8 1 rfl rfl; have f1 := S.f 8 1 rfl; go_simp; clear hS c0 f0 c1 f1
          have H := S.hset 8 0 (.bool (negB yr)) rfl rfl (by intro q n e; cases e)
          replace S := S.set 8 0 (.bool (negB yr)) rfl
          refine iv7 H n1 n2 ng nc nz na ny ?_; clear n1 n2 ng nc nz na ny; intro n1 n2 ng nc nz na ny; replace HH := HH.trans H; clear H
          have H := S.hset 8 1 (.slice pv lv Kv) rfl rfl (by intro q n e; cases e)
          replace S := S.set 8 1 (.slice pv lv Kv) rfl
          refine iv7 H n1 n2 ng nc nz na ny ?_; clear n1 n2 ng nc nz na ny; intro n1 n2 ng nc nz na ny; replace HH := HH.trans H; clear H
          refine ho hKK ⟨(S.c 1 0 rfl rfl), ⟨(S.c 1 1 rfl rfl), ⟨(S.c 4 0 rfl rfl), (S.c 4 1 rfl rfl)⟩⟩⟩ fun hS => ?_
          generalize ((w29.setCell ⟨w22.heap.size, 0, none⟩ (.bool (negB yr))).setCell ⟨w22.heap.size, 1, none⟩ (.slice pv lv Kv)) = w30 at S n1 n2 ng nc nz na ny HH hS ⊢
          clear hKK KK
          refine rd 12 fun KK hKK => ?_
          go_simp
          refine ho hKK hS fun hS => ?_
          clear hKK KK
          refine wpAnyH_done (by kernel_rfl) ?_ _
          go_wp2_with fail
          go_meet
          case rel => exact ⟨w12.heap.size, py, ly, Ky, rfl, S.sub (.cons_cons _ (.cons_cons _ (.cons_cons _ (.cons_cons _ (.cons_cons _ (.cons_cons _ (.cons_cons _ (.cons_cons _ (.cons _ (.slnil)))))))))), ny, HH⟩
      ·
        go_simp; clear hS
        have H := S.hnew 25 [.bool false, .slice none 0 0]
        replace S := S.al 25 [.bool false, .slice none 0 0] (w12.heap.size)
        refine iv6 H n1 n2 ng nc nz na ?_; clear n1 n2 ng nc nz na; intro n1 n2 ng nc nz na; replace HH := HH.trans H; clear H
        refine ho hKK ⟨(S.c 1 0 rfl rfl), ⟨(S.c 1 1 rfl rfl), ⟨(S.c 4 0 rfl rfl), (S.c 4 1 rfl rfl)⟩⟩⟩ fun hS => ?_
        generalize (w12.alloc (.cells #[.bool false, .slice none 0 0] 25)) = w31 at S n1 n2 ng nc nz na HH hS ⊢
        clear hKK KK
        refine wpAnyH_ready (rs := [3, 8]) (by kernel_rfl) (by simp) (AllReadyH.cons (opOf rfl) (fun KK hKK => ?_) (AllReadyH.cons (opOf rfl) (fun KK hKK => ?_) AllReadyH.nil))
        ·
          go_simp; clear hS
          refine (S.call (wdiv_to ⟨_, _, _, rfl, na⟩ ⟨_, _, _, rfl, nc⟩ HD.out.2.2.2.1 HG.out.2.1 y yr HG.out.2.2 HZ.out.2.2.1 HZ.out.2.2.2)).mono ?_
          clear S
          rintro e w32 ⟨⟨_, _, rfl, ⟨py, ly, Ky, rfl, ny⟩, ⟨pv, lv, Kv, rfl, nv⟩⟩, S, H⟩
          refine iv6 H n1 n2 ng nc nz na ?_; clear n1 n2 ng nc nz na; intro n1 n2 ng nc nz na; replace HH := HH.trans H; clear H
          go_wp2_with fail
          refine ho hKK ⟨(S.c 1 0 rfl rfl), ⟨(S.c 1 1 rfl rfl), ⟨(S.c 4 0 rfl rfl), (S.c 4 1 rfl rfl)⟩⟩⟩ fun hS => ?_
          clear hKK KK
          refine tk 4 hS ?_
          refine tk 5 hS ?_
          refine tk 6 hS ?_
          refine tk 7 hS ?_
          refine rd 8 fun KK hKK => ?_
          go_simp; clear hS
          have H := S.hnew 25 [.bool false, .slice none 0 0]
          replace S := S.al 25 [.bool false, .slice none 0 0] (w32.heap.size)
          refine iv7 H n1 n2 ng nc nz na ny ?_; clear n1 n2 ng nc nz na ny; intro n1 n2 ng nc nz na ny; replace HH := HH.trans H; clear H
          refine ho hKK ⟨(S.c 1 0 rfl rfl), ⟨(S.c 1 1 rfl rfl), ⟨(S.c 4 0 rfl rfl), (S.c 4 1 rfl rfl)⟩⟩⟩ fun hS => ?_
          generalize (w32.alloc (.cells #[.bool false, .slice none 0 0] 25)) = w33 at S n1 n2 ng nc nz na ny HH hS ⊢
          clear hKK KK
          refine rd 10 fun KK hKK => ?_
          have c0 := S.c 8 0 rfl rfl; have f0 := S.f 8 0 rfl; have c1 := S.c 8 1 rfl rfl; have f1 := S.f 8 1 rfl; go_simp; clear hS c0 f0 c1 f1
          have H := S.hset 8 0 (.bool (negB y)) rfl rfl (by intro q n e; cases e)
          replace S := S.set 8 0 (.bool (negB y)) rfl
          refine iv7 H n1 n2 ng nc nz na ny ?_; clear n1 n2 ng nc nz na ny; intro n1 n2 ng nc nz na ny; replace HH := HH.trans H; clear H
          have H := S.hset 8 1 (.slice py ly Ky) rfl rfl (by intro q n e; cases e)
          replace S := S.set 8 1 (.slice py ly Ky) rfl
          refine iv7 H n1 n2 ng nc nz na ny ?_; clear n1 n2 ng nc nz na ny; intro n1 n2 ng nc nz na ny; replace HH := HH.trans H; clear H
          refine ho hKK ⟨(S.c 1 0 rfl rfl), ⟨(S.c 1 1 rfl rfl), ⟨(S.c 4 0 rfl rfl), (S.c 4 1 rfl rfl)⟩⟩⟩ fun hS => ?_
          generalize ((w33.setCell ⟨w32.heap.size, 0, none⟩ (.bool (negB y))).setCell ⟨w32.heap.size, 1, none⟩ (.slice py ly Ky)) = w34 at S n1 n2 ng nc nz na ny HH hS ⊢
          clear hKK KK
          refine rd 11 fun KK hKK => ?_
          have c0 := S.c 7 0 rfl rfl; have f0 := S.f 7 0 rfl; have c1 := S.c 7 1 rfl rfl; have f1 := S.f 7 1 rfl; go_simp; clear hS c0 f0 c1 f1
          have H := S.hset 7 0 (.bool (negB yr)) rfl rfl (by intro q n e; cases e)
          replace S := S.set 7 0 (.bool (negB yr)) rfl
          refine iv7 H n1 n2 ng nc nz na ny ?_; clear n1 n2 ng nc nz na ny; intro n1 n2 ng nc nz na ny; replace HH := HH.trans H; clear H
          have H := S.hset 7 1 (.slice pv lv Kv) rfl rfl (by intro q n e; cases e)
          replace S := S.set 7 1 (.slice pv lv Kv) rfl
          refine iv7 H n1 n2 ng nc nz na ny ?_; clear n1 n2 ng nc nz na ny; intro n1 n2 ng nc nz na ny; replace HH := HH.trans H; clear H
          refine ho hKK ⟨(S.c 1 0 rfl rfl), ⟨(S.c 1 1 rfl rfl), ⟨(S.c 4 0 rfl rfl), (S.c 4 1 rfl rfl)⟩⟩⟩ fun hS => ?_
          generalize ((w34.setCell ⟨w12.heap.size, 0, none⟩ (.bool (negB yr))).setCell ⟨w12.heap.size, 1, none⟩ (.slice pv lv Kv)) = w35 at S n1 n2 ng nc nz na ny HH hS ⊢
          clear hKK KK
          refine rd 12 fun KK hKK => ?_
          go_simp
          refine ho hKK hS fun hS => ?_
          clear hKK KK
          refine wpAnyH_done (by kernel_rfl) ?_ _
          go_wp2_with fail
          go_meet
          case rel => exact ⟨w32.heap.size, py, ly, Ky, rfl, S.sub (.cons_cons _ (.cons_cons _ (.cons_cons _ (.cons_cons _ (.cons_cons _ (.cons_cons _ (.cons_cons _ (.cons _ (.cons_cons _ (.slnil)))))))))), ny, HH⟩
        ·
          go_simp; clear hS
          have H := S.hnew 25 [.bool false, .slice none 0 0]
          replace S := S.al 25 [.bool false, .slice none 0 0] (w31.heap.size)
          refine iv6 H n1 n2 ng nc nz na ?_; clear n1 n2 ng nc nz na; intro n1 n2 ng nc nz na; replace HH := HH.trans H; clear H
          refine ho hKK ⟨(S.c 1 0 rfl rfl), ⟨(S.c 1 1 rfl rfl), ⟨(S.c 4 0 rfl rfl), (S.c 4 1 rfl rfl)⟩⟩⟩ fun hS => ?_
          generalize (w31.alloc (.cells #[.bool false, .slice none 0 0] 25)) = w36 at S n1 n2 ng nc nz na HH hS ⊢
          clear hKK KK
          refine rd 3 fun KK hKK => ?_
          go_simp; clear hS
          refine (S.call (wdiv_to ⟨_, _, _, rfl, na⟩ ⟨_, _, _, rfl, nc⟩ HD.out.2.2.2.1 HG.out.2.1 y yr HG.out.2.2 HZ.out.2.2.1 HZ.out.2.2.2)).mono ?_
          clear S
          rintro e w37 ⟨⟨_, _, rfl, ⟨py, ly, Ky, rfl, ny⟩, ⟨pv, lv, Kv, rfl, nv⟩⟩, S, H⟩
          refine iv6 H n1 n2 ng nc nz na ?_; clear n1 n2 ng nc nz na; intro n1 n2 ng nc nz na; replace HH := HH.trans H; clear H
          go_wp2_with fail
          refine ho hKK ⟨(S.c 1 0 rfl rfl), ⟨(S.c 1 1 rfl rfl), ⟨(S.c 4 0 rfl rfl), (S.c 4 1 rfl rfl)⟩⟩⟩ fun hS => ?_
          clear hKK KK
          refine tk 4 hS ?_
          refine tk 5 hS ?_
          refine tk 6 hS ?_
          refine tk 7 hS ?_
          refine rd 10 fun KK hKK => ?_
          have c0 := S.c 8 0 rfl rfl; have f0 := S.f 8 0 rfl; have c1 := S.c 8 1 rfl rfl; have f1 := S.f 8 1 rfl; go_simp; clear hS c0 f0 c1 f1
          have H := S.hset 8 0 (.bool (negB y)) rfl rfl (by intro q n e; cases e)
          replace S := S.set 8 0 (.bool (negB y)) rfl
          refine iv7 H n1 n2 ng nc nz na ny ?_; clear n1 n2 ng nc nz na ny; intro n1 n2 ng nc nz na ny; replace HH := HH.trans H; clear H
          have H := S.hset 8 1 (.slice py ly Ky) rfl rfl (by intro q n e; cases e)
          replace S := S.set 8 1 (.slice py ly Ky) rfl
          refine iv7 H n1 n2 ng nc nz na ny ?_; clear n1 n2 ng nc nz na ny; intro n1 n2 ng nc nz na ny; replace HH := HH.trans H; clear H
          refine ho hKK ⟨(S.c 1 0 rfl rfl), ⟨(S.c 1 1 rfl rfl), ⟨(S.c 4 0 rfl rfl), (S.c 4 1 rfl rfl)⟩⟩⟩ fun hS => ?_
          generalize ((w37.setCell ⟨w31.heap.size, 0, none⟩ (.bool (negB y))).setCell ⟨w31.heap.size, 1, none⟩ (.slice py ly Ky)) = w38 at S n1 n2 ng nc nz na ny HH hS ⊢
          clear hKK KK
          refine rd 11 fun KK hKK => ?_
          have c0 := S.c 7 0 rfl rfl; have f0 := S.f 7 0 rfl; have c1 := S.c 7 1 rfl rfl; have f1 := S.f 7 1 rfl; go_simp; clear hS c0 f0 c1 f1
          have H := S.hset 7 0 (.bool (negB yr)) rfl rfl (by intro q n e; cases e)
          replace S := S.set 7 0 (.bool (negB yr)) rfl
          refine iv7 H n1 n2 ng nc nz na ny ?_; clear n1 n2 ng nc nz na ny; intro n1 n2 ng nc nz na ny; replace HH := HH.trans H; clear H
          have H := S.hset 7 1 (.slice pv lv Kv) rfl rfl (by intro q n e; cases e)
          replace S := S.set 7 1 (.slice pv lv Kv) rfl
          refine iv7 H n1 n2 ng nc nz na ny ?_; clear n1 n2 ng nc nz na ny; intro n1 n2 ng nc nz na ny; replace HH := HH.trans H; clear H
          refine ho hKK ⟨(S.c 1 0 rfl rfl), ⟨(S.c 1 1 rfl rfl), ⟨(S.c 4 0 rfl rfl), (S.c 4 1 rfl rfl)⟩⟩⟩ fun hS => ?_
          generalize ((w38.setCell ⟨w12.heap.size, 0, none⟩ (.bool (negB yr))).setCell ⟨w12.heap.size, 1, none⟩ (.slice pv lv Kv)) = w39 at S n1 n2 ng nc nz na ny HH hS ⊢
          clear hKK KK
          refine rd 12 fun KK hKK => ?_
          go_simp
          refine ho hKK hS fun hS => ?_
          clear hKK KK
          refine wpAnyH_done (by kernel_rfl) ?_ _
          go_wp2_with fail
          go_meet
          case rel => exact ⟨w31.heap.size, py, ly, Ky, rfl, S.sub (.cons_cons _ (.cons_cons _ (.cons_cons _ (.cons_cons _ (.cons_cons _ (.cons_cons _ (.cons_cons _ (.cons _ (.cons_cons _ (.slnil)))))))))), ny, HH⟩
    ·
      go_simp; clear hS
      have H := S.hnew 25 [.bool false, .slice none 0 0]
      replace S := S.al 25 [.bool false, .slice none 0 0] (w11.heap.size)
      refine iv5 H n1 n2 ng nc nz ?_; clear n1 n2 ng nc nz; intro n1 n2 ng nc nz; replace HH := HH.trans H; clear H
      refine ho hKK ⟨(S.c 1 0 rfl rfl), ⟨(S.c 1 1 rfl rfl), ⟨(S.c 4 0 rfl rfl), (S.c 4 1 rfl rfl)⟩⟩⟩ fun hS => ?_
      generalize (w11.alloc (.cells #[.bool false, .slice none 0 0] 25)) = w40 at S n1 n2 ng nc nz HH hS ⊢
      clear hKK KK
      refine wpAnyH_ready (rs := [1, 9]) (by kernel_rfl) (by simp) (AllReadyH.cons (opOf rfl) (fun KK hKK => ?_) (AllReadyH.cons (opOf rfl) (fun KK hKK => ?_) AllReadyH.nil))
      ·
        go_simp; clear hS
        refine (S.call (wabs_any ⟨_, _, _, by rw [HD.out.2.1], n2⟩ HD.out.2.2.2.1 ((d.natAbs : Nat) : Int) rfl)).mono ?_
        clear S
        rintro e w41 ⟨⟨_, rfl, pa, la, Ka, rfl, na⟩, S, H⟩
        refine iv5 H n1 n2 ng nc nz ?_; clear n1 n2 ng nc nz; intro n1 n2 ng nc nz; replace HH := HH.trans H; clear H
        go_wp2_with fail
        refine ho hKK ⟨(S.c 1 0 rfl rfl), ⟨(S.c 1 1 rfl rfl), ⟨(S.c 4 0 rfl rfl), (S.c 4 1 rfl rfl)⟩⟩⟩ fun hS => ?_
        clear hKK KK
        refine wpAnyH_ready (rs := [3, 9]) (by kernel_rfl) (by simp) (AllReadyH.cons (opOf rfl) (fun KK hKK => ?_) (AllReadyH.cons (opOf rfl) (fun KK hKK => ?_) AllReadyH.nil))
        ·
          go_simp; clear hS
          refine (S.call (wdiv_to ⟨_, _, _, rfl, na⟩ ⟨_, _, _, rfl, nc⟩ HD.out.2.2.2.1 HG.out.2.1 y yr HG.out.2.2 HZ.out.2.2.1 HZ.out.2.2.2)).mono ?_
          clear S
          rintro e w42 ⟨⟨_, _, rfl, ⟨py, ly, Ky, rfl, ny⟩, ⟨pv, lv, Kv, rfl, nv⟩⟩, S, H⟩
          refine iv6 H n1 n2 ng nc nz na ?_; clear n1 n2 ng nc nz na; intro n1 n2 ng nc nz na; replace HH := HH.trans H; clear H
          go_wp2_with fail
          refine ho hKK ⟨(S.c 1 0 rfl rfl), ⟨(S.c 1 1 rfl rfl), ⟨(S.c 4 0 rfl rfl), (S.c 4 1 rfl rfl)⟩⟩⟩ fun hS => ?_
          clear hKK KK
          refine tk 4 hS ?_
          refine tk 5 hS ?_
          refine tk 6 hS ?_
          refine tk 7 hS ?_
          refine rd 9 fun KK hKK => ?_
          go_simp; clear hS
          have H := S.hnew 25 [.bool false, .slice none 0 0]
          replace S := S.al 25 [.bool false, .slice none 0 0] (w42.heap.size)
          refine iv7 H n1 n2 ng nc nz na ny ?_; clear n1 n2 ng nc nz na ny; intro n1 n2 ng nc nz na ny; replace HH := HH.trans H; clear H
          refine ho hKK ⟨(S.c 1 0 rfl rfl), ⟨(S.c 1 1 rfl rfl), ⟨(S.c 4 0 rfl rfl), (S.c 4 1 rfl rfl)⟩⟩⟩ fun hS => ?_
          generalize (w42.alloc (.cells #[.bool false, .slice none 0 0] 25)) = w43 at S n1 n2 ng nc nz na ny HH hS ⊢
          clear hKK KK
          refine rd 10 fun KK hKK => ?_
          have c0 := S.c 7 0 rfl rfl; have f0 := S.f 7 0 rfl; have c1 := S.c 7 1 rfl rfl; have f1 := S.f 7 1 rfl; go_simp; clear hS c0 f0 c1 f1
          have H := S.hset 7 0 (.bool (negB y)) rfl rfl (by intro q n e; cases e)
          replace S := S.set 7 0 (.bool (negB y)) rfl
          refine iv7 H n1 n2 ng nc nz na ny ?_; clear n1 n2 ng nc nz na ny; intro n1 n2 ng nc nz na ny; replace HH := HH.trans H; clear H
          have H := S.hset 7 1 (.slice py ly Ky) rfl rfl (by intro q n e; cases e)
          replace S := S.set 7 1 (.slice py ly Ky) rfl
          refine iv7 H n1 n2 ng nc nz na ny ?_; clear n1 n2 ng nc nz na ny; intro n1 n2 ng nc nz na ny; replace HH := HH.trans H; clear H
          refine ho hKK ⟨(S.c 1 0 rfl rfl), ⟨(S.c 1 1 rfl rfl), ⟨(S.c 4 0 rfl rfl), (S.c 4 1 rfl rfl)⟩⟩⟩ fun hS => ?_
          generalize ((w43.setCell ⟨w11.heap.size, 0, none⟩ (.bool (negB y))).setCell ⟨w11.heap.size, 1, none⟩ (.slice py ly Ky)) = w44 at S n1 n2 ng nc nz na ny HH hS ⊢
          clear hKK KK
          refine rd 11 fun KK hKK => ?_
          have c0 := S.c 8 0 rfl rfl; have f0 := S.f 8 0 rfl; have c1 := S.c 8 1 rfl rfl; have f1 := S.f 8 1 rfl; go_simp; clear hS c0 f0 c1 f1
          have H := S.hset 8 0 (.bool (negB yr)) rfl rfl (by intro q n e; cases e)
          replace S := S.set 8 0 (.bool (negB yr)) rfl
          refine iv7 H n1 n2 ng nc nz na ny ?_; clear n1 n2 ng nc nz na ny; intro n1 n2 ng nc nz na ny; replace HH := HH.trans H; clear H
          have H := S.hset 8 1 (.slice pv lv Kv) rfl rfl (by intro q n e; cases e)
          replace S := S.set 8 1 (.slice pv lv Kv) rfl
          refine iv7 H n1 n2 ng nc nz na ny ?_; clear n1 n2 ng nc nz na ny; intro n1 n2 ng nc nz na ny; replace HH := HH.trans H; clear H
          refine ho hKK ⟨(S.c 1 0 rfl rfl), ⟨(S.c 1 1 rfl rfl), ⟨(S.c 4 0 rfl rfl), (S.c 4 1 rfl rfl)⟩⟩⟩ fun hS => ?_
          generalize ((w44.setCell ⟨w42.heap.size, 0, none⟩ (.bool (negB yr))).setCell ⟨w42.heap.size, 1, none⟩ (.slice pv lv Kv)) = w45 at S n1 n2 ng nc nz na ny HH hS ⊢
          clear hKK KK
          refine rd 12 fun KK hKK => ?_
          go_simp
          refine ho hKK hS fun hS => ?_
          clear hKK KK
          refine wpAnyH_done (by kernel_rfl) ?_ _
          go_wp2_with fail
          go_meet
          case rel => exact ⟨w11.heap.size, py, ly, Ky, rfl, S.sub (.cons_cons _ (.cons_cons _ (.cons_cons _ (.cons_cons _ (.cons_cons _ (.cons_cons _ (.cons_cons _ (.cons_cons _ (.cons _ (.slnil)))))))))), ny, HH⟩
        ·
          go_simp; clear hS
          have H := S.hnew 25 [.bool false, .slice none 0 0]
          replace S := S.al 25 [.bool false, .slice none 0 0] (w41.heap.size)
          refine iv6 H n1 n2 ng nc nz na ?_; clear n1 n2 ng nc nz na; intro n1 n2 ng nc nz na; replace HH := HH.trans H; clear H
          refine ho hKK ⟨(S.c 1 0 rfl rfl), ⟨(S.c 1 1 rfl rfl), ⟨(S.c 4 0 rfl rfl), (S.c 4 1 rfl rfl)⟩⟩⟩ fun hS => ?_
          generalize (w41.alloc (.cells #[.bool false, .slice none 0 0] 25)) = w46 at S n1 n2 ng nc nz na HH hS ⊢
          clear hKK KK
          refine rd 3 fun KK hKK => ?_
          go_simp; clear hS
          refine (S.call (wdiv_to ⟨_, _, _, rfl, na⟩ ⟨_, _, _, rfl, nc⟩ HD.out.2.2.2.1 HG.out.2.1 y yr HG.out.2.2 HZ.out.2.2.1 HZ.out.2.2.2)).mono ?_
          clear S
          rintro e w47 ⟨⟨_, _, rfl, ⟨py, ly, Ky, rfl, ny⟩, ⟨pv, lv, Kv, rfl, nv⟩⟩, S, H⟩
          refine iv6 H n1 n2 ng nc nz na ?_; clear n1 n2 ng nc nz na; intro n1 n2 ng nc nz na; replace HH := HH.trans H; clear H
          go_wp2_with fail
          refine ho hKK ⟨(S.c 1 0 rfl rfl), ⟨(S.c 1 1 rfl rfl), ⟨(S.c 4 0 rfl rfl), (S.c 4 1 rfl rfl)⟩⟩⟩ fun hS => ?_
          clear hKK KK
          refine tk 4 hS ?_
          refine tk 5 hS ?_
          refine tk 6 hS ?_
          refine tk 7 hS ?_
          refine rd 10 fun KK hKK => ?_
          have c0 := S.c 7 0 rfl rfl; have f0 := S.f 7 0 rfl; have c1 := S.c 7 1 rfl rfl; have f1 := S.f 7 1 rfl; go_simp; clear hS c0 f0 c1 f1
          have H := S.hset 7 0 (.bool (negB y)) rfl rfl (by intro q n e; cases e)
          replace S := S.set 7 0 (.bool (negB y)) rfl
          refine iv7 H n1 n2 ng nc nz na ny ?_; clear n1 n2 ng nc nz na ny; intro n1 n2 ng nc nz na ny; replace HH := HH.trans H; clear H
          have H := S.hset 7 1 (.slice py ly Ky) rfl rfl (by intro q n e; cases e)
          replace S := S.set 7 1 (.slice py ly Ky) rfl
          refine iv7 H n1 n2 ng nc nz na ny ?_; clear n1 n2 ng nc nz na ny; intro n1 n2 ng nc nz na ny; replace HH := HH.trans H; clear H
          refine ho hKK ⟨(S.c 1 0 rfl rfl), ⟨(S.c 1 1 rfl rfl), ⟨(S.c 4 0 rfl rfl), (S.c 4 1 rfl rfl)⟩⟩⟩ fun hS => ?_
          generalize ((w47.setCell ⟨w11.heap.size, 0, none⟩ (.bool (negB y))).setCell ⟨w11.heap.size, 1, none⟩ (.slice py ly Ky)) = w48 at S n1 n2 ng nc nz na ny HH hS ⊢
          clear hKK KK
          refine rd 11 fun KK hKK => ?_
          have c0 := S.c 8 0 rfl rfl; have f0 := S.f 8 0 rfl; have c1 := S.c 8 1 rfl rfl; have f1 := S.f 8 1 rfl; go_simp; clear hS c0 f0 c1 f1
          have H := S.hset 8 0 (.bool (negB yr)) rfl rfl (by intro q n e; cases e)
          replace S := S.set 8 0 (.bool (negB yr)) rfl
          refine iv7 H n1 n2 ng nc nz na ny ?_; clear n1 n2 ng nc nz na ny; intro n1 n2 ng nc nz na ny; replace HH := HH.trans H; clear H
          have H := S.hset 8 1 (.slice pv lv Kv) rfl rfl (by intro q n e; cases e)
          replace S := S.set 8 1 (.slice pv lv Kv) rfl
          refine iv7 H n1 n2 ng nc nz na ny ?_; clear n1 n2 ng nc nz na ny; intro n1 n2 ng nc nz na ny; replace HH := HH.trans H; clear H
          refine ho hKK ⟨(S.c 1 0 rfl rfl), ⟨(S.c 1 1 rfl rfl), ⟨(S.c 4 0 rfl rfl), (S.c 4 1 rfl rfl)⟩⟩⟩ fun hS => ?_
          generalize ((w48.setCell ⟨w41.heap.size, 0, none⟩ (.bool (negB yr))).setCell ⟨w41.heap.size, 1, none⟩ (.slice pv lv Kv)) = w49 at S n1 n2 ng nc nz na ny HH hS ⊢
          clear hKK KK
          refine rd 12 fun KK hKK => ?_
          go_simp
          refine ho hKK hS fun hS => ?_
          clear hKK KK
          refine wpAnyH_done (by kernel_rfl) ?_ _
          go_wp2_with fail
          go_meet
          case rel => exact ⟨w11.heap.size, py, ly, Ky, rfl, S.sub (.cons_cons _ (.cons_cons _ (.cons_cons _ (.cons_cons _ (.cons_cons _ (.cons_cons _ (.cons_cons _ (.cons_cons _ (.cons _ (.slnil)))))))))), ny, HH⟩
      ·
        go_simp; clear hS
        have H := S.hnew 25 [.bool false, .slice none 0 0]
        replace S := S.al 25 [.bool false, .slice none 0 0] (w40.heap.size)
        refine iv5 H n1 n2 ng nc nz ?_; clear n1 n2 ng nc nz; intro n1 n2 ng nc nz; replace HH := HH.trans H; clear H
        refine ho hKK ⟨(S.c 1 0 rfl rfl), ⟨(S.c 1 1 rfl rfl), ⟨(S.c 4 0 rfl rfl), (S.c 4 1 rfl rfl)⟩⟩⟩ fun hS => ?_
        generalize (w40.alloc (.cells #[.bool false, .slice none 0 0] 25)) = w50 at S n1 n2 ng nc nz HH hS ⊢
        clear hKK KK
        refine rd 1 fun KK hKK => ?_
        go_simp; clear hS
        refine (S.call (wabs_any ⟨_, _, _, by rw [HD.out.2.1], n2⟩ HD.out.2.2.2.1 ((d.natAbs : Nat) : Int) rfl)).mono ?_
        clear S
        rintro e w51 ⟨⟨_, rfl, pa, la, Ka, rfl, na⟩, S, H⟩
        refine iv5 H n1 n2 ng nc nz ?_; clear n1 n2 ng nc nz; intro n1 n2 ng nc nz; replace HH := HH.trans H; clear H
        go_wp2_with fail
        refine ho hKK ⟨(S.c 1 0 rfl rfl), ⟨(S.c 1 1 rfl rfl), ⟨(S.c 4 0 rfl rfl), (S.c 4 1 rfl rfl)⟩⟩⟩ fun hS => ?_
        clear hKK KK
        refine rd 3 fun KK hKK => ?_
        go_simp; clear hS
        refine (S.call (wdiv_to ⟨_, _, _, rfl, na⟩ ⟨_, _, _, rfl, nc⟩ HD.out.2.2.2.1 HG.out.2.1 y yr HG.out.2.2 HZ.out.2.2.1 HZ.out.2.2.2)).mono ?_
        clear S
        rintro e w52 ⟨⟨_, _, rfl, ⟨py, ly, Ky, rfl, ny⟩, ⟨pv, lv, Kv, rfl, nv⟩⟩, S, H⟩
        refine iv6 H n1 n2 ng nc nz na ?_; clear n1 n2 ng nc nz na; intro n1 n2 ng nc nz na; replace HH := HH.trans H; clear H
        go_wp2_with fail
        refine ho hKK ⟨(S.c 1 0 rfl rfl), ⟨(S.c 1 1 rfl rfl), ⟨(S.c 4 0 rfl rfl), (S.c 4 1 rfl rfl)⟩⟩⟩ fun hS => ?_
        clear hKK KK
        refine tk 4 hS ?_
        refine tk 5 hS ?_
        refine tk 6 hS ?_
        refine tk 7 hS ?_
        refine rd 10 fun KK hKK => ?_
        have c0 := S.c 7 0 rfl rfl; have f0 := S.f 7 0 rfl; have c1 := S.c 7 1 rfl rfl; have f1 := S.f 7 1 rfl; go_simp; clear hS c0 f0 c1 f1
        have H := S.hset 7 0 (.bool (negB y)) rfl rfl (by intro q n e; cases e)
        replace S := S.set 7 0 (.bool (negB y)) rfl
        refine iv7 H n1 n2 ng nc nz na ny ?_; clear n1 n2 ng nc nz na ny; intro n1 n2 ng nc nz na ny; replace HH := HH.trans H; clear H
        have H := S.hset 7 1 (.slice py ly Ky) rfl rfl (by intro q n e; cases e)
        replace S := S.set 7 1 (.slice py ly Ky) rfl
        refine iv7 H n1 n2 ng nc nz na ny ?_; clear n1 n2 ng nc nz na ny; intro n1 n2 ng nc nz na ny; replace HH := HH.trans H; clear H
        refine ho hKK ⟨(S.c 1 0 rfl rfl), ⟨(S.c 1 1 rfl rfl), ⟨(S.c 4 0 rfl rfl), (S.c 4 1 rfl rfl)⟩⟩⟩ fun hS => ?_
        generalize ((w52.setCell ⟨w11.heap.size, 0, none⟩ (.bool (negB y))).setCell ⟨w11.heap.size, 1, none⟩ (.slice py ly Ky)) = w53 at S n1 n2 ng nc nz na ny HH hS ⊢
        clear hKK KK
        refine rd 11 fun KK hKK => ?_
        have c0 := S.c 8 0 rfl rfl; have f0 := S.f 8 0 rfl; have c1 := S.c 8 1 rfl rfl; have f1 := S.f 8 1 rfl; go_simp; clear hS c0 f0 c1 f1
        have H := S.hset 8 0 (.bool (negB yr)) rfl rfl (by intro q n e; cases e)
        replace S := S.set 8 0 (.bool (negB yr)) rfl
        refine iv7 H n1 n2 ng nc nz na ny ?_; clear n1 n2 ng nc nz na ny; intro n1 n2 ng nc nz na ny; replace HH := HH.trans H; clear H
        have H := S.hset 8 1 (.slice pv lv Kv) rfl rfl (by intro q n e; cases e)
        replace S := S.set 8 1 (.slice pv lv Kv) rfl
        refine iv7 H n1 n2 ng nc nz na ny ?_; clear n1 n2 ng nc nz na ny; intro n1 n2 ng nc nz na ny; replace HH := HH.trans H; clear H
        refine ho hKK ⟨(S.c 1 0 rfl rfl), ⟨(S.c 1 1 rfl rfl), ⟨(S.c 4 0 rfl rfl), (S.c 4 1 rfl rfl)⟩⟩⟩ fun hS => ?_
        generalize ((w53.setCell ⟨w40.heap.size, 0, none⟩ (.bool (negB yr))).setCell ⟨w40.heap.size, 1, none⟩ (.slice pv lv Kv)) = w54 at S n1 n2 ng nc nz na ny HH hS ⊢
        clear hKK KK
        refine rd 12 fun KK hKK => ?_
        go_simp
        refine ho hKK hS fun hS => ?_
        clear hKK KK
        refine wpAnyH_done (by kernel_rfl) ?_ _
        go_wp2_with fail
        go_meet
        case rel => exact ⟨w11.heap.size, py, ly, Ky, rfl, S.sub (.cons_cons _ (.cons_cons _ (.cons_cons _ (.cons_cons _ (.cons_cons _ (.cons_cons _ (.cons_cons _ (.cons_cons _ (.cons _ (.slnil)))))))))), ny, HH⟩
    ·
      go_simp; clear hS
      have H := S.hnew 25 [.bool false, .slice none 0 0]
      replace S := S.al 25 [.bool false, .slice none 0 0] (w11.heap.size)
      refine iv5 H n1 n2 ng nc nz ?_; clear n1 n2 ng nc nz; intro n1 n2 ng nc nz; replace HH := HH.trans H; clear H
      refine ho hKK ⟨(S.c 1 0 rfl rfl), ⟨(S.c 1 1 rfl rfl), ⟨(S.c 4 0 rfl rfl), (S.c 4 1 rfl rfl)⟩⟩⟩ fun hS => ?_
      generalize (w11.alloc (.cells #[.bool false, .slice none 0 0] 25)) = w55 at S n1 n2 ng nc nz HH hS ⊢
      clear hKK KK
      refine wpAnyH_ready (rs := [1, 8]) (by kernel_rfl) (by simp) (AllReadyH.cons (opOf rfl) (fun KK hKK => ?_) (AllReadyH.cons (opOf rfl) (fun KK hKK => ?_) AllReadyH.nil))
      ·
        go_simp; clear hS
        refine (S.call (wabs_any ⟨_, _, _, by rw [HD.out.2.1], n2⟩ HD.out.2.2.2.1 ((d.natAbs : Nat) : Int) rfl)).mono ?_
        clear S
        rintro e w56 ⟨⟨_, rfl, pa, la, Ka, rfl, na⟩, S, H⟩
        refine iv5 H n1 n2 ng nc nz ?_; clear n1 n2 ng nc nz; intro n1 n2 ng nc nz; replace HH := HH.trans H; clear H
        go_wp2_with fail
        refine ho hKK ⟨(S.c 1 0 rfl rfl), ⟨(S.c 1 1 rfl rfl), ⟨(S.c 4 0 rfl rfl), (S.c 4 1 rfl rfl)⟩⟩⟩ fun hS => ?_
        clear hKK KK
        refine wpAnyH_ready (rs := [3, 8]) (by kernel_rfl) (by simp) (AllReadyH.cons (opOf rfl) (fun KK hKK => ?_) (AllReadyH.cons (opOf rfl) (fun KK hKK => ?_) AllReadyH.nil))
        ·
          go_simp; clear hS
          refine (S.call (wdiv_to ⟨_, _, _, rfl, na⟩ ⟨_, _, _, rfl, nc⟩ HD.out.2.2.2.1 HG.out.2.1 y yr HG.out.2.2 HZ.out.2.2.1 HZ.out.2.2.2)).mono ?_
          clear S
          rintro e w57 ⟨⟨_, _, rfl, ⟨py, ly, Ky, rfl, ny⟩, ⟨pv, lv, Kv, rfl, nv⟩⟩, S, H⟩
          refine iv6 H n1 n2 ng nc nz na ?_; clear n1 n2 ng nc nz na; intro n1 n2 ng nc nz na; replace HH := HH.trans H; clear H
          go_wp2_with fail
          refine ho hKK ⟨(S.c 1 0 rfl rfl), ⟨(S.c 1 1 rfl rfl), ⟨(S.c 4 0 rfl rfl), (S.c 4 1 rfl rfl)⟩⟩⟩ fun hS => ?_
          clear hKK KK
          refine tk 4 hS ?_
          refine tk 5 hS ?_
          refine tk 6 hS ?_
          refine tk 7 hS ?_
          refine rd 8 fun KK hKK => ?_
          go_simp; clear hS
          have H := S.hnew 25 [.bool false, .slice none 0 0]
          replace S := S.al 25 [.bool false, .slice none 0 0] (w57.heap.size)
          refine iv7 H n1 n2 ng nc nz na ny ?_; clear n1 n2 ng nc nz na ny; intro n1 n2 ng nc nz na ny; replace HH := HH.trans H; clear H
          refine ho hKK ⟨(S.c 1 0 rfl rfl), ⟨(S.c 1 1 rfl rfl), ⟨(S.c 4 0 rfl rfl), (S.c 4 1 rfl rfl)⟩⟩⟩ fun hS => ?_
          generalize (w57.alloc (.cells #[.bool false, .slice none 0 0] 25)) = w58 at S n1 n2 ng nc nz na ny HH hS ⊢
          clear hKK KK
          refine rd 10 fun KK hKK => ?_
          have c0 := S.c 8 0 rfl rfl; have f0 := S.f 8 0 rfl; have c1 := S.c 8 1 rfl rfl; have f1 := S.f 8 1 rfl; go_simp; clear hS c0 f0 c1 f1
          have H := S.hset 8 0 (.bool (negB y)) rfl rfl (by intro q n e; cases e)
          replace S := S.set 8 0 (.bool (negB y)) rfl
          refine iv7 H n1 n2 ng nc nz na ny ?_; clear n1 n2 ng nc nz na ny; intro n1 n2 ng nc nz na ny; replace HH := HH.trans H; clear H
          have H := S.hset 8 1 (.slice py ly Ky) rfl rfl (by intro q n e; cases e)
          replace S := S.set 8 1 (.slice py ly Ky) rfl
          refine iv7 H n1 n2 ng nc nz na ny ?_; clear n1 n2 ng nc nz na ny; intro n1 n2 ng nc nz na ny; replace HH := HH.trans H; clear H
          refine ho hKK ⟨(S.c 1 0 rfl rfl), ⟨(S.c 1 1 rfl rfl), ⟨(S.c 4 0 rfl rfl), (S.c 4 1 rfl rfl)⟩⟩⟩ fun hS => ?_
          generalize ((w58.setCell ⟨w57.heap.size, 0, none⟩ (.bool (negB y))).setCell ⟨w57.heap.size, 1, none⟩ (.slice py ly Ky)) = w59 at S n1 n2 ng nc nz na ny HH hS ⊢
          clear hKK KK
          refine rd 11 fun KK hKK => ?_
          have c0 := S.c 7 0 rfl rfl; have f0 := S.f 7 0 rfl; have c1 := S.c 7 1 rfl rfl; have f1 := S.f 7 1 rfl; go_simp; clear hS c0 f0 c1 f1
          have H := S.hset 7 0 (.bool (negB yr)) rfl rfl (by intro q n e; cases e)
          replace S := S.set 7 0 (.bool (negB yr)) rfl
          refine iv7 H n1 n2 ng nc nz na ny ?_; clear n1 n2 ng nc nz na ny; intro n1 n2 ng nc nz na ny; replace HH := HH.trans H; clear H
          have H := S.hset 7 1 (.slice pv lv Kv) rfl rfl (by intro q n e; cases e)
          replace S := S.set 7 1 (.slice pv lv Kv) rfl
          refine iv7 H n1 n2 ng nc nz na ny ?_; clear n1 n2 ng nc nz na ny; intro n1 n2 ng nc nz na ny; replace HH := HH.trans H; clear H
          refine ho hKK ⟨(S.c 1 0 rfl rfl), ⟨(S.c 1 1 rfl rfl), ⟨(S.c 4 0 rfl rfl), (S.c 4 1 rfl rfl)⟩⟩⟩ fun hS => ?_
          generalize ((w59.setCell ⟨w11.heap.size, 0, none⟩ (.bool (negB yr))).setCell ⟨w11.heap.size, 1, none⟩ (.slice pv lv Kv)) = w60 at S n1 n2 ng nc nz na ny HH hS ⊢
          clear hKK KK
          refine rd 12 fun KK hKK => ?_
          go_simp
          refine ho hKK hS fun hS => ?_
          clear hKK KK
          refine wpAnyH_done (by kernel_rfl) ?_ _
          go_wp2_with fail
          go_meet
          case rel => exact ⟨w57.heap.size, py, ly, Ky, rfl, S.sub (.cons_cons _ (.cons_cons _ (.cons_cons _ (.cons_cons _ (.cons_cons _ (.cons_cons _ (.cons_cons _ (.cons _ (.cons_cons _ (.slnil)))))))))), ny, HH⟩
        ·
          go_simp; clear hS
          have H := S.hnew 25 [.bool false, .slice none 0 0]
          replace S := S.al 25 [.bool false, .slice none 0 0] (w56.heap.size)
          refine iv6 H n1 n2 ng nc nz na ?_; clear n1 n2 ng nc nz na; intro n1 n2 ng nc nz na; replace HH := HH.trans H; clear H
          refine ho hKK ⟨(S.c 1 0 rfl rfl), ⟨(S.c 1 1 rfl rfl), ⟨(S.c 4 0 rfl rfl), (S.c 4 1 rfl rfl)⟩⟩⟩ fun hS => ?_
          generalize (w56.alloc (.cells #[.bool false, .slice none 0 0] 25)) = w61 at S n1 n2 ng nc nz na HH hS ⊢
          clear hKK KK
          refine rd 3 fun KK hKK => ?_
          go_simp; clear hS
          refine (S.call (wdiv_to ⟨_, _, _, rfl, na⟩ ⟨_, _, _, rfl, nc⟩ HD.out.2.2.2.1 HG.out.2.1 y yr HG.out.2.2 HZ.out.2.2.1 HZ.out.2.2.2)).mono ?_
          clear S
          rintro e w62 ⟨⟨_, _, rfl, ⟨py, ly, Ky, rfl, ny⟩, ⟨pv, lv, Kv, rfl, nv⟩⟩, S, H⟩
          refine iv6 H n1 n2 ng nc nz na ?_; clear n1 n2 ng nc nz na; intro n1 n2 ng nc nz na; replace HH := HH.trans H; clear H
          go_wp2_with fail
          refine ho hKK ⟨(S.c 1 0 rfl rfl), ⟨(S.c 1 1 rfl rfl), ⟨(S.c 4 0 rfl rfl), (S.c 4 1 rfl rfl)⟩⟩⟩ fun hS => ?_
          clear hKK KK
          refine tk 4 hS ?_
          refine tk 5 hS ?_
          refine tk 6 hS ?_
          refine tk 7 hS ?_
          refine rd 10 fun KK hKK => ?_
          have c0 := S.c 8 0 rfl rfl; have f0 := S.f 8 0 rfl; have c1 := S.c 8 1 rfl rfl; have f1 := S.f 8 1 rfl; go_simp; clear hS c0 f0 c1 f1
          have H := S.hset 8 0 (.bool (negB y)) rfl rfl (by intro q n e; cases e)
          replace S := S.set 8 0 (.bool (negB y)) rfl
          refine iv7 H n1 n2 ng nc nz na ny ?_; clear n1 n2 ng nc nz na ny; intro n1 n2 ng nc nz na ny; replace HH := HH.trans H; clear H
          have H := S.hset 8 1 (.slice py ly Ky) rfl rfl (by intro q n e; cases e)
          replace S := S.set 8 1 (.slice py ly Ky) rfl
          refine iv7 H n1 n2 ng nc nz na ny ?_; clear n1 n2 ng nc nz na ny; intro n1 n2 ng nc nz na ny; replace HH := HH.trans H; clear H
          refine ho hKK ⟨(S.c 1 0 rfl rfl), ⟨(S.c 1 1 rfl rfl), ⟨(S.c 4 0 rfl rfl), (S.c 4 1 rfl rfl)⟩⟩⟩ fun hS => ?_
          generalize ((w62.setCell ⟨w56.heap.size, 0, none⟩ (.bool (negB y))).setCell ⟨w56.heap.size, 1, none⟩ (.slice py ly Ky)) = w63 at S n1 n2 ng nc nz na ny HH hS ⊢
          clear hKK KK
          refine rd 11 fun KK hKK => ?_
          have c0 := S.c 7 0 rfl rfl; have f0 := S.f 7 0 rfl; have c1 := S.c 7 1 rfl rfl; have f1 := S.f 7 1 rfl; go_simp; clear hS c0 f0 c1 f1
          have H := S.hset 7 0 (.bool (negB yr)) rfl rfl (by intro q n e; cases e)
          replace S := S.set 7 0 (.bool (negB yr)) rfl
          refine iv7 H n1 n2 ng nc nz na ny ?_; clear n1 n2 ng nc nz na ny; intro n1 n2 ng nc nz na ny; replace HH := HH.trans H; clear H
          have H := S.hset 7 1 (.slice pv lv Kv) rfl rfl (by intro q n e; cases e)
          replace S := S.set 7 1 (.slice pv lv Kv) rfl
          refine iv7 H n1 n2 ng nc nz na ny ?_; clear n1 n2 ng nc nz na ny; intro n1 n2 ng nc nz na ny; replace HH := HH.trans H; clear H
          refine ho hKK ⟨(S.c 1 0 rfl rfl), ⟨(S.c 1 1 rfl rfl), ⟨(S.c 4 0 rfl rfl), (S.c 4 1 rfl rfl)⟩⟩⟩ fun hS => ?_
          generalize ((w63.setCell ⟨w11.heap.size, 0, none⟩ (.bool (negB yr))).setCell ⟨w11.heap.size, 1, none⟩ (.slice pv lv Kv)) = w64 at S n1 n2 ng nc nz na ny HH hS ⊢
          clear hKK KK
          refine rd 12 fun KK hKK => ?_
          go_simp
          refine ho hKK hS fun hS => ?_
          clear hKK KK
          refine wpAnyH_done (by kernel_rfl) ?_ _
          go_wp2_with fail
          go_meet
          case rel => exact ⟨w56.heap.size, py, ly, Ky, rfl, S.sub (.cons_cons _ (.cons_cons _ (.cons_cons _ (.cons_cons _ (.cons_cons _ (.cons_cons _ (.cons_cons _ (.cons _ (.cons_cons _ (.slnil)))))))))), ny, HH⟩
      ·
        go_simp; clear hS
        have H := S.hnew 25 [.bool false, .slice none 0 0]
        replace S := S.al 25 [.bool false, .slice none 0 0] (w55.heap.size)
        refine iv5 H n1 n2 ng nc nz ?_; clear n1 n2 ng nc nz; intro n1 n2 ng nc nz; replace HH := HH.trans H; clear H
        refine ho hKK ⟨(S.c 1 0 rfl rfl), ⟨(S.c 1 1 rfl rfl), ⟨(S.c 4 0 rfl rfl), (S.c 4 1 rfl rfl)⟩⟩⟩ fun hS => ?_
        generalize (w55.alloc (.cells #[.bool false, .slice none 0 0] 25)) = w65 at S n1 n2 ng nc nz HH hS ⊢
        clear hKK KK
        refine rd 1 fun KK hKK => ?_
        go_simp; clear hS
        refine (S.call (wabs_any ⟨_, _, _, by rw [HD.out.2.1], n2⟩ HD.out.2.2.2.1 ((d.natAbs : Nat) : Int) rfl)).mono ?_
        clear S
        rintro e w66 ⟨⟨_, rfl, pa, la, Ka, rfl, na⟩, S, H⟩
        refine iv5 H n1 n2 ng nc nz ?_; clear n1 n2 ng nc nz; intro n1 n2 ng nc nz; replace HH := HH.trans H; clear H
        go_wp2_with fail
        refine ho hKK ⟨(S.c 1 0 rfl rfl), ⟨(S.c 1 1 rfl rfl), ⟨(S.c 4 0 rfl rfl), (S.c 4 1 rfl rfl)⟩⟩⟩ fun hS => ?_
        clear hKK KK
        refine rd 3 fun KK hKK => ?_
        go_simp; clear hS
        refine (S.call (wdiv_to ⟨_, _, _, rfl, na⟩ ⟨_, _, _, rfl, nc⟩ HD.out.2.2.2.1 HG.out.2.1 y yr HG.out.2.2 HZ.out.2.2.1 HZ.out.2.2.2)).mono ?_
        clear S
        rintro e w67 ⟨⟨_, _, rfl, ⟨py, ly, Ky, rfl, ny⟩, ⟨pv, lv, Kv, rfl, nv⟩⟩, S, H⟩
        refine iv6 H n1 n2 ng nc nz na ?_; clear n1 n2 ng nc nz na; intro n1 n2 ng nc nz na; replace HH := HH.trans H; clear H
        go_wp2_with fail
        refine ho hKK ⟨(S.c 1 0 rfl rfl), ⟨(S.c 1 1 rfl rfl), ⟨(S.c 4 0 rfl rfl), (S.c 4 1 rfl rfl)⟩⟩⟩ fun hS => ?_
        clear hKK KK
        refine tk 4 hS ?_
        refine tk 5 hS ?_
        refine tk 6 hS ?_
        refine tk 7 hS ?_
        refine rd 10 fun KK hKK => ?_
        have c0 := S.c 8 0 rfl rfl; have f0 := S.f 8 0 rfl; have c1 := S.c 8 1 rfl rfl; have f1 := S.f 8 1 rfl; go_simp; clear hS c0 f0 c1 f1
        have H := S.hset 8 0 (.bool (negB y)) rfl rfl (by intro q n e; cases e)
        replace S := S.set 8 0 (.bool (negB y)) rfl
        refine iv7 H n1 n2 ng nc nz na ny ?_; clear n1 n2 ng nc nz na ny; intro n1 n2 ng nc nz na ny; replace HH := HH.trans H; clear H
        have H := S.hset 8 1 (.slice py ly Ky) rfl rfl (by intro q n e; cases e)
        replace S := S.set 8 1 (.slice py ly Ky) rfl
        refine iv7 H n1 n2 ng nc nz na ny ?_; clear n1 n2 ng nc nz na ny; intro n1 n2 ng nc nz na ny; replace HH := HH.trans H; clear H
        refine ho hKK ⟨(S.c 1 0 rfl rfl), ⟨(S.c 1 1 rfl rfl), ⟨(S.c 4 0 rfl rfl), (S.c 4 1 rfl rfl)⟩⟩⟩ fun hS => ?_
        generalize ((w67.setCell ⟨w55.heap.size, 0, none⟩ (.bool (negB y))).setCell ⟨w55.heap.size, 1, none⟩ (.slice py ly Ky)) = w68 at S n1 n2 ng nc nz na ny HH hS ⊢
        clear hKK KK
        refine rd 11 fun KK hKK => ?_
        have c0 := S.c 7 0 rfl rfl; have f0 := S.f 7 0 rfl; have c1 := S.c 7 1 rfl rfl; have f1 := S.f 7 1 rfl; go_simp; clear hS c0 f0 c1 f1
        have H := S.hset 7 0 (.bool (negB yr)) rfl rfl (by intro q n e; cases e)
        replace S := S.set 7 0 (.bool (negB yr)) rfl
        refine iv7 H n1 n2 ng nc nz na ny ?_; clear n1 n2 ng nc nz na ny; intro n1 n2 ng nc nz na ny; replace HH := HH.trans H; clear H
        have H := S.hset 7 1 (.slice pv lv Kv) rfl rfl (by intro q n e; cases e)
        replace S := S.set 7 1 (.slice pv lv Kv) rfl
        refine iv7 H n1 n2 ng nc nz na ny ?_; clear n1 n2 ng nc nz na ny; intro n1 n2 ng nc nz na ny; replace HH := HH.trans H; clear H
        refine ho hKK ⟨(S.c 1 0 rfl rfl), ⟨(S.c 1 1 rfl rfl), ⟨(S.c 4 0 rfl rfl), (S.c 4 1 rfl rfl)⟩⟩⟩ fun hS => ?_
        generalize ((w68.setCell ⟨w11.heap.size, 0, none⟩ (.bool (negB yr))).setCell ⟨w11.heap.size, 1, none⟩ (.slice pv lv Kv)) = w69 at S n1 n2 ng nc nz na ny HH hS ⊢
        clear hKK KK
        refine rd 12 fun KK hKK => ?_
        go_simp
        refine ho hKK hS fun hS => ?_
        clear hKK KK
        refine wpAnyH_done (by kernel_rfl) ?_ _
        go_wp2_with fail
        go_meet
        case rel => exact ⟨w55.heap.size, py, ly, Ky, rfl, S.sub (.cons_cons _ (.cons_cons _ (.cons_cons _ (.cons_cons _ (.cons_cons _ (.cons_cons _ (.cons_cons _ (.cons _ (.cons_cons _ (.slnil)))))))))), ny, HH⟩
  case rest =>
    obtain ⟨g11, py, ly, Ky, rfl, S, ny, HH⟩ := hcut
    obtain ⟨w70, rfl⟩ : ∃ W : World, W = wc := ⟨_, rfl⟩
    refine iv5 HH n1 n2 ng nc nz ?_; clear n1 n2 ng nc nz; intro n1 n2 ng nc nz; clear HH
    cases b2 with
    | false =>
      have HN := Lib.hid (HQ.out.2.2.1 rfl)
      have c0_0 := S.c 0 0 rfl rfl; have c0_1 := S.c 0 1 rfl rfl; have c1_0 := S.c 1 0 rfl rfl; have c1_1 := S.c 1 1 rfl rfl; obtain ⟨c2_0, c2_1, c2_2⟩ := S.c3 2 rfl; have c4_0 := S.c 4 0 rfl rfl; have c4_1 := S.c 4 1 rfl rfl; have c5_0 := S.c 5 0 rfl rfl; have c5_1 := S.c 5 1 rfl rfl; have c7_0 := S.c 7 0 rfl rfl; have c7_1 := S.c 7 1 rfl rfl
      obtain ⟨f2_0, f2_1, f2_2⟩ := S.f3 2 rfl
      have HP := S.putq 2 (.bool (negB z)) (.slice pz lz Kz) (.slice py ly Ky) rfl rfl; have H := HP.2; replace S := HP.1; clear HP
      refine iv6 H n1 n2 ng nc nz ny ?_; clear n1 n2 ng nc nz ny; intro n1 n2 ng nc nz ny
      clear H; go_wp2_with fail; obtain ⟨d2_0, d2_1, d2_2⟩ := S.c3 2 rfl
      exact bodyPost_ret (v := .tuple #[.agg #[.bool (negB z), .slice pz lz Kz, .slice py ly Ky], .int .i64 0]) (by simp [results, Tryz.f92, go_sem, d2_0, d2_1, d2_2]) rfl (⟨⟨_, rfl, negB z, pz, lz, Kz, py, ly, Ky, rfl, by rw [HN.out]; rfl, by rw [HN.out]; exact nz, by rw [← HQ.out.1]; exact ny⟩, S.below⟩)
    | true =>
      have HN := Lib.hid (HQ.out.2.2.2 rfl)
      have c0_0 := S.c 0 0 rfl rfl; have c0_1 := S.c 0 1 rfl rfl; have c1_0 := S.c 1 0 rfl rfl; have c1_1 := S.c 1 1 rfl rfl; obtain ⟨c2_0, c2_1, c2_2⟩ := S.c3 2 rfl; have c4_0 := S.c 4 0 rfl rfl; have c4_1 := S.c 4 1 rfl rfl; have c5_0 := S.c 5 0 rfl rfl; have c5_1 := S.c 5 1 rfl rfl; have c7_0 := S.c 7 0 rfl rfl; have c7_1 := S.c 7 1 rfl rfl; go_wp2_with fail; clear c0_0 c0_1 c1_0 c1_1 c2_0 c2_1 c2_2 c4_0 c4_1 c5_0 c5_1 c7_0 c7_1
      refine (S.call (wneg_to ⟨_, _, _, rfl, nz⟩ HQ.out.2.1 (-z) rfl)).mono ?_
      clear S
      rintro e w71 ⟨⟨_, rfl, pw, lw, Kw, rfl, nw⟩, S, H⟩
      refine iv6 H n1 n2 ng nc nz ny ?_; clear n1 n2 ng nc nz ny; intro n1 n2 ng nc nz ny
      clear H; have c0_0 := S.c 0 0 rfl rfl; have c0_1 := S.c 0 1 rfl rfl; have c1_0 := S.c 1 0 rfl rfl; have c1_1 := S.c 1 1 rfl rfl; obtain ⟨c2_0, c2_1, c2_2⟩ := S.c3 2 rfl; have c4_0 := S.c 4 0 rfl rfl; have c4_1 := S.c 4 1 rfl rfl; have c5_0 := S.c 5 0 rfl rfl; have c5_1 := S.c 5 1 rfl rfl; have c7_0 := S.c 7 0 rfl rfl; have c7_1 := S.c 7 1 rfl rfl; have f5_0 := S.f 5 0 rfl
      have H := S.hset 5 0 (.bool (negB (-z))) rfl rfl (by intro q n e; cases e)
      replace S := S.set 5 0 (.bool (negB (-z))) rfl
      refine iv7 H n1 n2 ng nc nz ny nw ?_; clear n1 n2 ng nc nz ny nw; intro n1 n2 ng nc nz ny nw
      clear H; have f5_1 := S.f 5 1 rfl
      have H := S.hset 5 1 (.slice pw lw Kw) rfl rfl (by intro q n e; cases e)
      replace S := S.set 5 1 (.slice pw lw Kw) rfl
      refine iv7 H n1 n2 ng nc nz ny nw ?_; clear n1 n2 ng nc nz ny nw; intro n1 n2 ng nc nz ny nw
      clear H; have c5_0 := S.c 5 0 rfl rfl; have c5_1 := S.c 5 1 rfl rfl; have c7_1 := S.c 7 1 rfl rfl; obtain ⟨c2_0, c2_1, c2_2⟩ := S.c3 2 rfl
      obtain ⟨f2_0, f2_1, f2_2⟩ := S.f3 2 rfl
      have HP := S.putq 2 (.bool (negB (-z))) (.slice pw lw Kw) (.slice py ly Ky) rfl rfl; have H := HP.2; replace S := HP.1; clear HP
      refine iv7 H n1 n2 ng nc nz ny nw ?_; clear n1 n2 ng nc nz ny nw; intro n1 n2 ng nc nz ny nw
      clear H; go_wp2_with fail; obtain ⟨d2_0, d2_1, d2_2⟩ := S.c3 2 rfl
      exact bodyPost_ret (v := .tuple #[.agg #[.bool (negB (-z)), .slice pw lw Kw, .slice py ly Ky], .int .i64 0]) (by simp [results, Tryz.f92, go_sem, d2_0, d2_1, d2_2]) rfl (⟨⟨_, rfl, negB (-z), pw, lw, Kw, py, ly, Ky, rfl, by rw [HN.out]; rfl, by rw [HN.out]; exact nw, by rw [← HQ.out.1]; exact ny⟩, S.below⟩)
theorem divInt_le (n d : Int) (h : d ≠ 0) : (Rat.divInt n d).num.natAbs ≤ n.natAbs ∧ (Rat.divInt n d).den ≤ d.natAbs := by
  obtain ⟨h1, h2, h3, h4⟩ := make_parts n d h
  refine ⟨?_, by rw [h2]; exact Nat.div_le_self _ _⟩
  rcases (show 0 < d ∨ d < 0 by omega) with h0 | h0
  · rw [h3 h0]; exact Int.natAbs_ediv_le_natAbs _ _
  · rw [h4 h0, Int.natAbs_neg]; exact Int.natAbs_ediv_le_natAbs _ _
theorem rb_divInt {n d : Int} {k : Nat} (h : d ≠ 0) (hn : n.natAbs < NB k) (hd : d.natAbs < NB k) : RB (Rat.divInt n d) k :=
  ⟨Nat.lt_of_le_of_lt (divInt_le n d h).1 hn, Nat.lt_of_le_of_lt (divInt_le n d h).2 hd⟩
theorem add_divInt (x y : Rat) : x + y = Rat.divInt (x.num * y.den + y.num * x.den) ((x.den * y.den : Nat) : Int) := by rw [Rat.add_def', Rat.divInt_ofNat]
theorem mul_divInt (x y : Rat) : x * y = Rat.divInt (x.num * y.num) ((x.den * y.den : Nat) : Int) := by rw [Rat.mul_def', Rat.divInt_ofNat]
theorem rbz {x y : Rat} {a b : Nat} (h : RB x a) (k : RB y b) : (x.num * y.den).natAbs < NB (a + b) ∧ (y.num * x.den).natAbs < NB (a + b) ∧ x.den * y.den < NB (a + b) ∧ (x.num * y.num).natAbs < NB (a + b) := by
  refine ⟨nbz_mul h.1 k.2, ?_, nb_mul h.2 k.2, nbz_mul h.1 k.1⟩
  rw [Nat.add_comm]
  exact nbz_mul k.1 h.2
theorem rb_add {x y : Rat} {a b : Nat} (h : RB x a) (k : RB y b) : RB (x + y) (a + b + 1) := by
  obtain ⟨h1, h2, h3, _⟩ := rbz h k
  rw [add_divInt]
  refine rb_divInt (by have := Nat.mul_pos x.den_pos y.den_pos; omega) (nbz_add h1 h2) (nb_mono h3 (by omega))
theorem rb_mul {x y : Rat} {a b : Nat} (h : RB x a) (k : RB y b) : RB (x * y) (a + b) := by
  obtain ⟨_, _, h3, h4⟩ := rbz h k
  rw [mul_divInt]
  exact rb_divInt (by have := Nat.mul_pos x.den_pos y.den_pos; omega) h4 h3
theorem rb_neg {x : Rat} {a : Nat} (h : RB x a) : RB (-x) a := ⟨by rw [Rat.neg_num, Int.natAbs_neg]; exact h.1, h.2⟩
theorem num_ne {y : Rat} (h : y ≠ 0) : y.num ≠ 0 := fun e => h (Rat.num_eq_zero.1 e)
theorem rb_max {x : Rat} {a : Nat} (h : RB x a) (hk : a ≤ 512) : x.num.natAbs < maxN ∧ x.den < maxN := ⟨nb_max h.1 hk, nb_max h.2 hk⟩
def cmpR (x y : Rat) : Int := cmpI (x.num * y.den) (y.num * x.den)
set_option maxRecDepth 100000 in
set_option maxHeartbeats 4000000 in
theorem rcompare_any {va vb : Value} {x y : Rat} {w : World} (ha : IsRat w va x) (hb : IsRat w vb y) {k1 k2 : Nat} (hx : RB x k1) (hy : RB y k2) (hk : k1 + k2 ≤ 511) (c : Int) (hc : cmpR x y = c) :
    Calls Tryz.prog 37 #[va, vb] w fun e w' => e = .returned (.tuple #[.int .i64 c, .int .i64 0]) ∧ Below w.heap.size w w' := by
  obtain ⟨b1, p1, l1, K1, q1, j1, J1, rfl, hb1, n1, d1⟩ := ha
  obtain ⟨b2, p2, l2, K2, q2, j2, J2, rfl, hb2, n2, d2⟩ := hb
  obtain ⟨X, hX⟩ : ∃ X, x.num * y.den = X := ⟨_, rfl⟩
  obtain ⟨Y, hY⟩ : ∃ Y, y.num * x.den = Y := ⟨_, rfl⟩
  have hb := rbz hx hy
  rw [hX, hY] at hb
  unfold cmpR at hc
  rw [hX, hY] at hc
  have HX := Lib.hid (And.intro (rb_max hx (by omega)) (rb_max hy (by omega)))
  have HD := Lib.hid (And.intro hX (And.intro hY hc))
  have HB := Lib.hid (And.intro (nb_max hb.1 (by omega)) (nb_max hb.2.1 (by omega)))
  clear hX hY hb hc hx hy hk
  have S := ((St.start w).alloc 34 [.bool b1, .slice p1 l1 K1, .slice q1 j1 J1] (w.heap.size)).alloc 34 [.bool b2, .slice p2 l2 K2, .slice q2 j2 J2] (w.heap.size + 1)
  try simp only [List.cons_append, List.nil_append] at S
  refine iv4 S.hold n1 d1 n2 d2 ?_; clear n1 d1 n2 d2; intro n1 d1 n2 d2
  obtain ⟨c0_0, c0_1, c0_2⟩ := S.c3 0 rfl; obtain ⟨c1_0, c1_1, c1_2⟩ := S.c3 1 rfl
  go_enter Tryz.func37, Tryz.ntmps37
  go_wp2_with fail; clear c0_0 c0_1 c0_2 c1_0 c1_1 c1_2
  refine (S.call (cross_any ⟨b1, p1, l1, K1, q1, j1, J1, rfl, hb1, n1, d1⟩ ⟨b2, p2, l2, K2, q2, j2, J2, rfl, hb2, n2, d2⟩ HX.out.1.1 HX.out.1.2 HX.out.2.1 HX.out.2.2 X Y HD.out.1 HD.out.2.1 HB.out.1 HB.out.2)).mono ?_
  clear S
  rintro e w1 ⟨⟨_, _, rfl, ⟨px, lx, Kx, rfl, nx⟩, ⟨py, ly, Ky, rfl, ny⟩⟩, S, H⟩
  refine iv4 H n1 d1 n2 d2 ?_; clear n1 d1 n2 d2; intro n1 d1 n2 d2
  clear H; obtain ⟨c0_0, c0_1, c0_2⟩ := S.c3 0 rfl; obtain ⟨c1_0, c1_1, c1_2⟩ := S.c3 1 rfl
  have H := S.hnew 25 [.bool (negB X), .slice px lx Kx]
  replace S := S.al 25 [.bool (negB X), .slice px lx Kx] (w1.heap.size)
  refine iv6 H n1 d1 n2 d2 nx ny ?_; clear n1 d1 n2 d2 nx ny; intro n1 d1 n2 d2 nx ny
  clear H
  have H := S.hnew 25 [.bool (negB Y), .slice py ly Ky]
  replace S := S.al 25 [.bool (negB Y), .slice py ly Ky] (w1.heap.size + 1)
  refine iv6 H n1 d1 n2 d2 nx ny ?_; clear n1 d1 n2 d2 nx ny; intro n1 d1 n2 d2 nx ny
  clear H; clear c0_0 c0_1 c0_2 c1_0 c1_1 c1_2; obtain ⟨c0_0, c0_1, c0_2⟩ := S.c3 0 rfl; obtain ⟨c1_0, c1_1, c1_2⟩ := S.c3 1 rfl; have c2_0 := S.c 2 0 rfl rfl; have c2_1 := S.c 2 1 rfl rfl; have c3_0 := S.c 3 0 rfl rfl; have c3_1 := S.c 3 1 rfl rfl; go_wp2_with fail; clear c0_0 c0_1 c0_2 c1_0 c1_1 c1_2 c2_0 c2_1 c3_0 c3_1
  refine (S.call (wcompare_to ⟨_, _, _, rfl, nx⟩ ⟨_, _, _, rfl, ny⟩ HB.out.1 HB.out.2 c HD.out.2.2)).mono ?_
  clear S
  rintro e w2 ⟨rfl, S, H⟩
  refine iv6 H n1 d1 n2 d2 nx ny ?_; clear n1 d1 n2 d2 nx ny; intro n1 d1 n2 d2 nx ny
  clear H; obtain ⟨c0_0, c0_1, c0_2⟩ := S.c3 0 rfl; obtain ⟨c1_0, c1_1, c1_2⟩ := S.c3 1 rfl; have c2_0 := S.c 2 0 rfl rfl; have c2_1 := S.c 2 1 rfl rfl; have c3_0 := S.c 3 0 rfl rfl; have c3_1 := S.c 3 1 rfl rfl; go_wp2_with fail
  exact bodyPost_ret (v := .tuple #[.int .i64 c, .int .i64 0]) (by simp [results, Tryz.f37, go_sem]) rfl (⟨rfl, S.below⟩)
theorem cmpR_lt {x y : Rat} (h : x < y) : cmpR x y = -1 := by
  have := (Rat.lt_iff x y).1 h
  unfold cmpR cmpI; rw [if_pos this]
theorem cmpR_gt {x y : Rat} (h : y < x) : cmpR x y = 1 := by
  have := (Rat.lt_iff y x).1 h
  unfold cmpR cmpI; rw [if_neg (by omega), if_pos this]
theorem cmpR_eq (x : Rat) : cmpR x x = 0 := by
  unfold cmpR cmpI; rw [if_neg (by omega), if_neg (by omega)]
theorem rat_three (x y : Rat) : x < y ∨ x = y ∨ y < x := by grind
theorem sgn_neg {x : Rat} (h : x < 0) : x.num.sign = -1 := by
  have := (Rat.lt_iff x 0).1 h
  simp at this
  exact Int.sign_eq_neg_one_of_neg this
theorem sgn_pos {x : Rat} (h : 0 < x) : x.num.sign = 1 := by
  have := (Rat.lt_iff 0 x).1 h
  simp at this
  exact Int.sign_eq_one_of_pos this
def dq (m e : Int) : Rat := (m : Rat) * (2 : Rat) ^ e
theorem two_ne : (2 : Rat) ≠ 0 := by decide +kernel
theorem two_pos : (0 : Rat) < 2 := by decide +kernel
theorem pow_pos2 (e : Int) : (0 : Rat) < (2 : Rat) ^ e := Rat.zpow_pos two_pos
theorem dq_zero (e : Int) : dq 0 e = 0 := by unfold dq; rw [Rat.intCast_zero, Rat.zero_mul]
theorem pow_nat (k : Nat) : (((2 ^ k : Nat) : Int) : Rat) = (2 : Rat) ^ (k : Int) := by
  rw [Rat.zpow_natCast]
  induction k with
  | zero => rfl
  | succ k ih => rw [Nat.pow_succ, Rat.pow_succ, ← ih, Int.natCast_mul, Rat.intCast_mul]; rfl
theorem dq_shift (m e : Int) (k : Nat) : dq (m * ((2 ^ k : Nat) : Int)) e = dq m (e + k) := by
  unfold dq
  rw [Rat.intCast_mul, pow_nat, Int.add_comm e, Rat.zpow_add two_ne, Rat.mul_assoc]
theorem dq_add (x y e : Int) : dq x e + dq y e = dq (x + y) e := by unfold dq; rw [Rat.intCast_add, Rat.add_mul]
theorem dq_neg (x e : Int) : -dq x e = dq (-x) e := by unfold dq; rw [Rat.intCast_neg, Rat.neg_mul]
theorem dq_mul (x y e f : Int) : dq x e * dq y f = dq (x * y) (e + f) := by
  unfold dq
  rw [Rat.intCast_mul, Rat.zpow_add two_ne]
  grind
theorem dq_lt (x y e : Int) : dq x e < dq y e ↔ x < y := by
  unfold dq
  rw [Rat.mul_lt_mul_right (pow_pos2 e), Rat.intCast_lt_intCast]
theorem dq_eq (x y e : Int) : dq x e = dq y e ↔ x = y := by
  constructor
  · intro h
    rcases Int.lt_trichotomy x y with h1 | h1 | h1
    · have := (dq_lt x y e).2 h1; rw [h] at this; exact absurd this (Rat.lt_irrefl)
    · exact h1
    · have := (dq_lt y x e).2 h1; rw [h] at this; exact absurd this (Rat.lt_irrefl)
  · intro h; rw [h]
theorem cmpR_dq (x y e : Int) : cmpR (dq x e) (dq y e) = cmpI x y := by
  unfold cmpI
  rcases Int.lt_trichotomy x y with h1 | h1 | h1
  · rw [if_pos h1, cmpR_lt ((dq_lt x y e).2 h1)]
  · subst h1; rw [if_neg (by omega), if_neg (by omega), cmpR_eq]
  · rw [if_neg (by omega), if_pos h1, cmpR_gt ((dq_lt y x e).2 h1)]
theorem dq_sign (m e : Int) : (dq m e).num.sign = m.sign := by
  rcases Int.lt_trichotomy m 0 with h1 | h1 | h1
  · have := (dq_lt m 0 e).2 h1
    rw [dq_zero] at this
    rw [sgn_neg this, Int.sign_eq_neg_one_of_neg h1]
  · subst h1; rw [dq_zero]; rfl
  · have := (dq_lt 0 m e).2 h1
    rw [dq_zero] at this
    rw [sgn_pos this, Int.sign_eq_one_of_pos h1]
theorem dq_abs (m e : Int) : (dq m e).abs = dq (m.natAbs : Nat) e := by
  rcases Int.lt_trichotomy m 0 with h1 | h1 | h1
  · have := (dq_lt m 0 e).2 h1
    rw [dq_zero] at this
    rw [Rat.abs_of_nonpos (by grind), dq_neg]
    congr 1; omega
  · subst h1; rw [dq_zero]; show _ = dq 0 e; rw [dq_zero]; rfl
  · have := (dq_lt 0 m e).2 h1
    rw [dq_zero] at this
    rw [Rat.abs_of_nonneg (by grind)]
    congr 1; omega
theorem dq_whole (m : Int) (k : Nat) : dq m (k : Int) = ((m * ((2 ^ k : Nat) : Int) : Int) : Rat) := by
  unfold dq
  rw [Rat.intCast_mul, pow_nat]
theorem dq_part (m : Int) (k : Nat) : dq m (-(k : Int)) = Rat.divInt m ((2 ^ k : Nat) : Int) := by
  unfold dq
  rw [Rat.zpow_neg, ← pow_nat, Rat.divInt_eq_div, Rat.div_def]
theorem odd_gcd {m : Int} (h : m % 2 = 1) (k : Nat) : Nat.gcd m.natAbs (2 ^ k) = 1 := by
  have h2 : Nat.Coprime m.natAbs 2 := by
    have : m.natAbs % 2 = 1 := by omega
    unfold Nat.Coprime
    rw [Nat.gcd_comm, Nat.gcd_rec, this]
    decide
  exact Nat.Coprime.pow_right k h2
theorem dq_stands {m : Int} (h : m % 2 = 1) (k : Nat) : (dq m (-(k : Int))).num = m ∧ (dq m (-(k : Int))).den = 2 ^ k := by
  have hk : (2 ^ k : Nat) ≠ 0 := Nat.pos_iff_ne_zero.1 (Nat.pow_pos (by decide))
  have e : dq m (-(k : Int)) = Rat.mk' m (2 ^ k) hk (by have := odd_gcd h k; exact this) := by
    rw [dq_part]
    rw [← Rat.mk_eq_divInt]
  rw [e]
  exact ⟨rfl, rfl⟩
theorem dq_le (x y e : Int) : dq x e ≤ dq y e ↔ x ≤ y := by
  have h := dq_lt y x e
  constructor
  · intro h1
    apply Int.not_lt.1
    intro h2
    exact absurd (h.2 h2) (Rat.not_lt.2 h1)
  · intro h1
    apply Rat.not_lt.1
    intro h2
    have := h.1 h2
    omega
theorem dq_one_pow (n : Nat) (e : Int) : dq ((2 ^ n : Nat) : Int) e = dq 1 (e + n) := by
  have := dq_shift 1 e n
  rwa [Int.one_mul] at this
theorem dq_one_mono {a b : Int} (h : a ≤ b) : dq 1 a ≤ dq 1 b := by
  obtain ⟨k, hk⟩ : ∃ k : Nat, b = a + k := ⟨(b - a).toNat, by omega⟩
  rw [hk, ← dq_one_pow, dq_le]
  have := Nat.two_pow_pos k
  omega
theorem dq_far {m1 m2 e1 e2 : Int} {n1 n2 : Nat} (h1 : m1 < ((2 ^ n1 : Nat) : Int)) (h2 : ((2 ^ (n2 - 1) : Nat) : Int) ≤ m2) (hn : 1 ≤ n2) (h : n1 + e1 < n2 + e2) : dq m1 e1 < dq m2 e2 := by
  have a1 := (dq_lt m1 _ e1).2 h1
  have a2 := (dq_le _ m2 e2).2 h2
  rw [dq_one_pow] at a1 a2
  have a3 := dq_one_mono (a := e1 + n1) (b := e2 + ((n2 - 1 : Nat) : Int)) (by omega)
  grind
theorem cmpR_neg (x y : Rat) : cmpR (-x) (-y) = cmpR y x := by
  rcases rat_three x y with h | h | h
  · rw [cmpR_gt h, cmpR_gt (show -y < -x by grind)]
  · subst h; rw [cmpR_eq, cmpR_eq]
  · rw [cmpR_lt h, cmpR_lt (show -x < -y by grind)]
theorem cmpR_sgn {x y : Rat} {s t : Int} (hs : x.num.sign = s) (ht : y.num.sign = t) (h : s ≠ t) : cmpR x y = cmpI s t := by
  subst hs; subst ht
  rcases rat_three x 0 with a | a | a <;> rcases rat_three y 0 with b | b | b
  all_goals
    first
      | (have e1 := sgn_neg a)
      | (have e1 := sgn_pos a)
      | (have e1 : x.num.sign = 0 := by rw [a]; rfl)
    first
      | (have e2 := sgn_neg b)
      | (have e2 := sgn_pos b)
      | (have e2 : y.num.sign = 0 := by rw [b]; rfl)
    rw [e1, e2] at h ⊢
    first
      | exact absurd rfl h
      | (rw [cmpR_lt (by grind)]; rfl)
      | (rw [cmpR_gt (by grind)]; rfl)
theorem cmpI_neg (a b : Int) : cmpI b a = -cmpI a b := by
  unfold cmpI
  rcases Int.lt_trichotomy a b with h | h | h
  · rw [if_neg (by omega), if_pos h, if_pos h]; rfl
  · rw [if_neg (by omega), if_neg (by omega), if_neg (by omega), if_neg (by omega)]; rfl
  · rw [if_pos h, if_neg (by omega), if_pos h]
theorem cmp_pow_pos {m1 m2 e1 e2 : Int} (h1 : 0 < m1) (h2 : 0 < m2) (h : (nbits m1.natAbs : Int) + e1 ≠ (nbits m2.natAbs : Int) + e2) : cmpR (dq m1 e1) (dq m2 e2) = cmpI ((nbits m1.natAbs : Int) + e1) ((nbits m2.natAbs : Int) + e2) := by
  obtain ⟨a1, a2, a3⟩ := nbits_spec (n := m1.natAbs) (by omega)
  obtain ⟨b1, b2, b3⟩ := nbits_spec (n := m2.natAbs) (by omega)
  generalize nbits m1.natAbs = n1 at *
  generalize nbits m2.natAbs = n2 at *
  rcases Int.lt_or_gt_of_ne h with h | h
  · rw [cmpR_lt (dq_far (n1 := n1) (n2 := n2) (by omega) (by omega) b1 h)]
    unfold cmpI; rw [if_pos h]
  · rw [cmpR_gt (dq_far (n1 := n2) (n2 := n1) (by omega) (by omega) a1 h)]
    unfold cmpI; rw [if_neg (by omega), if_pos h]
theorem cmp_pow {m1 m2 e1 e2 s : Int} (h1 : m1.sign = s) (h2 : m2.sign = s) (h0 : s ≠ 0) (h : (nbits m1.natAbs : Int) + e1 ≠ (nbits m2.natAbs : Int) + e2) : cmpR (dq m1 e1) (dq m2 e2) = s * cmpI ((nbits m1.natAbs : Int) + e1) ((nbits m2.natAbs : Int) + e2) := by
  rcases Int.lt_trichotomy m1 0 with k | k | k
  · have hs : s = -1 := by rw [← h1]; exact Int.sign_eq_neg_one_of_neg k
    have k2 : m2 < 0 := Int.sign_eq_neg_one_iff_neg.1 (h2.trans hs)
    have e3 : dq m1 e1 = -dq (-m1) e1 := by rw [dq_neg, Int.neg_neg]
    have e4 : dq m2 e2 = -dq (-m2) e2 := by rw [dq_neg, Int.neg_neg]
    have := cmp_pow_pos (m1 := -m2) (m2 := -m1) (e1 := e2) (e2 := e1) (by omega) (by omega) (by rw [Int.natAbs_neg, Int.natAbs_neg]; exact fun e => h e.symm)
    rw [Int.natAbs_neg, Int.natAbs_neg] at this
    rw [e3, e4, cmpR_neg, this, hs, cmpI_neg]
    omega
  · rw [k] at h1; exact absurd h1.symm h0
  · have hs : s = 1 := by rw [← h1]; exact Int.sign_eq_one_of_pos k
    have k2 : 0 < m2 := Int.sign_eq_one_iff_pos.1 (h2.trans hs)
    rw [cmp_pow_pos k k2 h, hs, Int.one_mul]
@[irreducible] def PB (n : Nat) : Nat := 2 ^ n
theorem PB_is (n : Nat) : PB n = 2 ^ n := by unfold PB; rfl
theorem PB_mono {a b : Nat} (h : a ≤ b) : PB a ≤ PB b := by rw [PB_is, PB_is]; exact Nat.pow_le_pow_right (by decide) h
theorem PB_add (a b : Nat) : PB (a + b) = PB a * PB b := by rw [PB_is, PB_is, PB_is, Nat.pow_add]
theorem PB_pos (a : Nat) : 0 < PB a := by rw [PB_is]; exact Nat.two_pow_pos a
theorem PB_NB (k : Nat) : NB k = PB (32 * k) := by unfold NB; rw [PB_is, show (4294967296 : Nat) = 2 ^ 32 by decide, ← Nat.pow_mul]
theorem pb_mono {m a b : Nat} (h : m < PB a) (hk : a ≤ b) : m < PB b := Nat.lt_of_lt_of_le h (PB_mono hk)
theorem pb_max {m n : Nat} (h : m < PB n) (hn : n ≤ 16384) : m < maxN := nb_max (k := 512) (by rw [PB_NB]; exact pb_mono h (by omega)) (by omega)
theorem pb_nb {m n k : Nat} (h : m < PB n) (hn : n ≤ 32 * k) : m < NB k := by rw [PB_NB]; exact pb_mono h hn
theorem nb_pb {m n k : Nat} (h : m < NB k) (hn : 32 * k ≤ n) : m < PB n := by rw [PB_NB] at h; exact pb_mono h hn
def DyC (m e : Int) : Prop := (m = 0 ∧ e = 0) ∨ m % 2 = 1
def ZF (z e : Int) (L H : Nat) : Prop := -(L : Int) ≤ e ∧ z.natAbs * 2 ^ (e + L).toNat < PB (H + L)
def DyF (m e : Int) (x : Rat) (L H : Nat) : Prop := DyC m e ∧ ZF m e L H ∧ dq m e = x
def IsD (w : World) (v : Value) (x : Rat) (L H : Nat) : Prop := ∃ b p l K m e, v = .agg #[.bool b, .slice p l K, .int .i64 e] ∧ Hid (negB m = b) ∧ IsNat w (.slice p l K) m.natAbs ∧ Hid (DyF m e x L H)
theorem ZF.size {z e : Int} {L H : Nat} (h : ZF z e L H) : z.natAbs < PB (H + L) :=
  Nat.lt_of_le_of_lt (Nat.le_mul_of_pos_right _ (Nat.two_pow_pos _)) h.2
theorem ZF.max {z e : Int} {L H : Nat} (h : ZF z e L H) (hL : H + L ≤ 16384) : z.natAbs < maxN := pb_max h.size hL
theorem ZF.exp {z e : Int} {L H : Nat} (h : ZF z e L H) (h0 : z ≠ 0) : e < H := by
  have h1 : 2 ^ (e + L).toNat ≤ z.natAbs * 2 ^ (e + L).toNat := Nat.le_mul_of_pos_left _ (by omega)
  have h2 := Nat.lt_of_le_of_lt h1 h.2
  rw [PB_is] at h2
  have h3 := (Nat.pow_lt_pow_iff_right (by decide : 1 < 2)).1 h2
  have := h.1
  omega
theorem ZF.mono {z e : Int} {L H L' H' : Nat} (h : ZF z e L H) (hL : L ≤ L') (hH : H ≤ H') : ZF z e L' H' := by
  obtain ⟨h1, h2⟩ := h
  refine ⟨by omega, ?_⟩
  have e1 : (e + L').toNat = (e + L).toNat + (L' - L) := by omega
  have e2 : H' + L' = (H + L) + (L' - L) + (H' - H) := by omega
  rw [e1, e2, Nat.pow_add, ← Nat.mul_assoc, PB_add, PB_add, PB_is (L' - L)]
  calc z.natAbs * 2 ^ (e + L).toNat * 2 ^ (L' - L) < PB (H + L) * 2 ^ (L' - L) := Nat.mul_lt_mul_of_pos_right h2 (Nat.two_pow_pos _)
    _ ≤ PB (H + L) * 2 ^ (L' - L) * PB (H' - H) := Nat.le_mul_of_pos_right _ (PB_pos _)
theorem ZF.zero {e : Int} {L H : Nat} (h : -(L : Int) ≤ e) : ZF 0 e L H := ⟨h, by rw [Int.natAbs_zero, Nat.zero_mul]; exact PB_pos _⟩
theorem ZF.of {z e : Int} {L H n : Nat} (hz : z.natAbs < PB n) (he : -(L : Int) ≤ e) (hH : n + e ≤ H) : ZF z e L H := by
  refine ⟨he, ?_⟩
  have e1 : H + L = n + (e + L).toNat + (H - (n + e).toNat) ∨ n + (e + L).toNat ≤ H + L := by omega
  have e2 : n + (e + L).toNat ≤ H + L := by omega
  refine Nat.lt_of_lt_of_le ?_ (PB_mono e2)
  rw [PB_add, PB_is ((e + L).toNat)]
  exact Nat.mul_lt_mul_of_pos_right hz (Nat.two_pow_pos _)
theorem DyF.mono {m e : Int} {x : Rat} {L H L' H' : Nat} (h : DyF m e x L H) (hL : L ≤ L') (hH : H ≤ H') : DyF m e x L' H' := ⟨h.1, h.2.1.mono hL hH, h.2.2⟩
theorem DyF.exp {m e : Int} {x : Rat} {L H : Nat} (h : DyF m e x L H) : -(L : Int) ≤ e ∧ e ≤ H := by
  refine ⟨h.2.1.1, ?_⟩
  rcases h.1 with ⟨_, h2⟩ | h2
  · omega
  · have := h.2.1.exp (by omega); omega
theorem DyF.max {m e : Int} {x : Rat} {L H : Nat} (h : DyF m e x L H) (hL : H + L ≤ 16384) : m.natAbs < maxN := h.2.1.max hL
theorem IsD.mono {w : World} {v : Value} {x : Rat} {L H L' H' : Nat} (h : IsD w v x L H) (hL : L ≤ L') (hH : H ≤ H') : IsD w v x L' H' := by
  obtain ⟨b, p, l, K, m, e, h1, h2, h3, h4⟩ := h
  exact ⟨b, p, l, K, m, e, h1, h2, h3, h4.out.mono hL hH⟩
theorem IsD.hold {w w' : World} {v : Value} {x : Rat} {L H : Nat} (h : Hold w w') : IsD w v x L H → IsD w' v x L H
  | ⟨b, p, l, K, m, e, h1, h2, h3, h4⟩ => ⟨b, p, l, K, m, e, h1, h2, h3.hold h, h4⟩
instance hdI8 {w w' : World} {v : Value} {x : Rat} {L H : Nat} : Hd w w' (IsD w v x L H) (IsD w' v x L H) := ⟨IsD.hold⟩
theorem DyF.zero (L H : Nat) : DyF 0 0 0 L H := ⟨.inl ⟨rfl, rfl⟩, ZF.zero (by omega), dq_zero 0⟩
theorem tail_le {n t k : Nat} (h : TailIs n t) (h0 : n ≠ 0) (hn : n < PB k) : t ≤ k := by
  rcases h with ⟨h, _⟩ | ⟨m, rfl⟩
  · omega
  · have h1 : 2 ^ t ≤ 2 ^ t * (2 * m + 1) := Nat.le_mul_of_pos_right _ (by omega)
    rw [PB_is] at hn
    have := (Nat.pow_lt_pow_iff_right (by decide : 1 < 2)).1 (Nat.lt_of_le_of_lt h1 hn)
    omega
theorem tail_odd {z : Int} {t : Nat} (h0 : z ≠ 0) (h : TailIs z.natAbs t) : ∃ o : Int, o % 2 = 1 ∧ z = o * ((2 ^ t : Nat) : Int) ∧ z / 2 ^ t = o ∧ z.natAbs = o.natAbs * 2 ^ t := by
  rcases h with ⟨h, _⟩ | ⟨m, hm⟩
  · omega
  have hp := Nat.two_pow_pos t
  obtain ⟨p, hpp⟩ : ∃ p : Nat, 2 ^ t = p := ⟨_, rfl⟩
  rw [hpp] at hm hp
  have hpI : (2 : Int) ^ t = (p : Int) := by rw [← hpp]; simp
  rw [hpI, hpp]
  have key : ∀ o : Int, z = o * (p : Int) → z / (p : Int) = o := fun o ho => by rw [ho]; exact Int.mul_ediv_cancel _ (by omega)
  rcases Int.lt_trichotomy z 0 with hz | hz | hz
  · have e : z = -((2 * m + 1 : Nat) : Int) * (p : Int) := by rw [Int.neg_mul, ← Int.natCast_mul, Nat.mul_comm, ← hm]; omega
    exact ⟨-((2 * m + 1 : Nat) : Int), by omega, e, key _ e, by rw [hm, Nat.mul_comm]; congr 1⟩
  · omega
  · have e : z = ((2 * m + 1 : Nat) : Int) * (p : Int) := by rw [← Int.natCast_mul, Nat.mul_comm, ← hm]; omega
    exact ⟨((2 * m + 1 : Nat) : Int), by omega, e, key _ e, by rw [hm, Nat.mul_comm]; congr 1⟩
theorem dyf_make {z e : Int} {t L H : Nat} (h0 : z ≠ 0) (h : TailIs z.natAbs t) (hz : ZF z e L H) : DyF (z / 2 ^ t) (e + t) (dq z e) L H := by
  obtain ⟨o, h1, h2, h3, h4⟩ := tail_odd h0 h
  have hl := hz.1
  rw [h3]
  refine ⟨.inr h1, ⟨by omega, ?_⟩, ?_⟩
  · have e1 : (e + (t : Int) + L).toNat = t + (e + L).toNat := by omega
    rw [e1, Nat.pow_add, ← Nat.mul_assoc, ← h4]
    exact hz.2
  · conv => rhs; rw [h2]
    rw [dq_shift]
theorem make_exp {z e : Int} {t L H : Nat} (h0 : z ≠ 0) (h : TailIs z.natAbs t) (hz : ZF z e L H) : e + t < H := by
  have h1 := dyf_make h0 h hz
  obtain ⟨o, a1, _, a3, _⟩ := tail_odd h0 h
  rw [a3] at h1
  exact h1.2.1.exp (by omega)
theorem dyc_sign {m e : Int} {x : Rat} {L H : Nat} (h : DyF m e x L H) : x.num.sign = m.sign := by rw [← h.2.2]; exact dq_sign m e
theorem dq_odd {m e z f : Int} (hm : m % 2 = 1) (h : dq m e = dq z f) : ∃ t : Nat, z = m * ((2 ^ t : Nat) : Int) ∧ e = f + t := by
  by_cases hlt : f ≤ e
  · obtain ⟨t, ht⟩ : ∃ t : Nat, e = f + t := ⟨(e - f).toNat, by omega⟩
    rw [ht, ← dq_shift, dq_eq] at h
    exact ⟨t, h.symm, ht⟩
  · obtain ⟨t, ht⟩ : ∃ t : Nat, f = e + (t + 1 : Nat) := ⟨(f - e).toNat - 1, by omega⟩
    rw [ht, ← dq_shift, dq_eq, Nat.pow_succ, Int.natCast_mul, ← Int.mul_assoc] at h
    omega
theorem dyc_uniq {m e n f : Int} (h : DyC m e) (g : DyC n f) (he : dq m e = dq n f) : m = n ∧ e = f := by
  rcases h with ⟨h1, h2⟩ | h <;> rcases g with ⟨g1, g2⟩ | g
  · omega
  · rw [h1, dq_zero] at he
    have := (dq_eq n 0 f).1 (by rw [← he, dq_zero])
    omega
  · rw [g1, dq_zero] at he
    have := (dq_eq m 0 e).1 (by rw [he, dq_zero])
    omega
  · obtain ⟨t, h1, h2⟩ := dq_odd h he
    obtain ⟨s, g1, g2⟩ := dq_odd g he.symm
    have : t = 0 := by omega
    subst this
    exact ⟨by rw [h1]; simp, by omega⟩
theorem wrap_int {z : Int} (h0 : -9223372036854775808 ≤ z) (h1 : z ≤ 9223372036854775807) : IntKind.i64.wrap z = z := by
  rw [show ∀ y, IntKind.i64.wrap y = (y + 9223372036854775808) % 18446744073709551616 - 9223372036854775808 from fun y => by simp [IntKind.wrap, IntKind.bits, IntKind.signed]; omega]
  omega
set_option maxRecDepth 100000 in
theorem exp_in (e : Int) (w : World) (h0 : -65536 ≤ e) (h1 : e ≤ 65536) : Calls Tryz.prog 140 #[.int .i64 e] w fun ev w' => ev = .returned (.bool true) ∧ Below w.heap.size w w' := by
  have S := St.start w
  go_enter Tryz.func140, Tryz.ntmps140
  go_wp2_with fail
  exact bodyPost_ret (v := .bool true) (by simp [results, Tryz.f140, go_sem]) rfl (⟨rfl, S.below⟩)
set_option maxRecDepth 100000 in
theorem bits_in (n : Int) (w : World) (h0 : 2 ≤ n) (h1 : n ≤ 4096) : Calls Tryz.prog 123 #[.int .i64 n] w fun ev w' => ev = .returned (.bool true) ∧ Below w.heap.size w w' := by
  have S := St.start w
  go_enter Tryz.func123, Tryz.ntmps123
  go_wp2_with fail
  exact bodyPost_ret (v := .bool true) (by simp [results, Tryz.f123, go_sem]) rfl (⟨rfl, S.below⟩)
set_option maxRecDepth 100000 in
set_option maxHeartbeats 4000000 in
theorem dmake_any {va : Value} {z e : Int} {w : World} {L H : Nat} (hT : Tab w) (ha : IsInt w va z) (hz : ZF z e L H) (hLH : H + L ≤ 16384) (x : Rat) (hx : dq z e = x) :
    Calls Tryz.prog 108 #[va, .int .i64 e] w fun ev w' => (∃ u, ev = .returned (.tuple #[u, .int .i64 0]) ∧ IsD w' u x L H) ∧ Below w.heap.size w w' := by
  obtain ⟨p1, l1, K1, rfl, n1⟩ := ha
  obtain ⟨b1, hb1⟩ : ∃ b1, negB z = b1 := ⟨_, rfl⟩
  rw [hb1]
  have HD := Lib.hid (And.intro hT (And.intro hz (And.intro hLH (And.intro hx (And.intro (hz.max hLH) hb1)))))
  by_cases h0 : z = 0
  · subst h0
    have hx0 : x = 0 := by rw [← hx]; exact dq_zero e
    subst hx0
    clear hT hz hLH hx hb1
    have S := ((St.start w).alloc 25 [.bool b1, .slice p1 l1 K1] (w.heap.size)).alloc 27 [.bool false, .slice none 0 0, .int .i64 0] (w.heap.size + 1)
    try simp only [List.cons_append, List.nil_append] at S
    replace n1 := n1.hold S.hold
    have c0_0 := S.c 0 0 rfl rfl; have c0_1 := S.c 0 1 rfl rfl; obtain ⟨c1_0, c1_1, c1_2⟩ := S.c3 1 rfl
    go_enter Tryz.func108, Tryz.ntmps108
    go_wp2_with fail; clear c0_0 c0_1 c1_0 c1_1 c1_2
    refine (S.call (wsign_any (z := 0) (s := 0) ⟨_, _, _, by rw [HD.out.2.2.2.2.2], n1⟩ (lt_maxN (by decide)) rfl)).mono ?_
    clear S
    rintro e w1 ⟨rfl, S, H⟩
    replace n1 := n1.hold H; clear H; have c0_0 := S.c 0 0 rfl rfl; have c0_1 := S.c 0 1 rfl rfl; obtain ⟨c1_0, c1_1, c1_2⟩ := S.c3 1 rfl; clear c0_0 c0_1 c1_0 c1_1 c1_2; have c0_0 := S.c 0 0 rfl rfl; have c0_1 := S.c 0 1 rfl rfl; obtain ⟨c1_0, c1_1, c1_2⟩ := S.c3 1 rfl
    obtain ⟨f1_0, f1_1, f1_2⟩ := S.f3 1 rfl
    have HP := S.put3 1 (.bool false) (.slice none 0 0) (.int .i64 0) rfl rfl; have H := HP.2; replace S := HP.1; clear HP
    replace n1 := n1.hold32 H; clear H; go_wp2_with fail; obtain ⟨d1_0, d1_1, d1_2⟩ := S.c3 1 rfl
    exact bodyPost_ret (v := .tuple #[.agg #[.bool false, .slice none 0 0, .int .i64 0], .int .i64 0]) (by simp [results, Tryz.f108, go_sem, d1_0, d1_1, d1_2]) rfl (⟨⟨_, rfl, false, none, 0, 0, 0, 0, rfl, rfl, IsNat.zero _, DyF.zero _ _⟩, S.below⟩)
  · obtain ⟨s, hs⟩ : ∃ s, z.sign = s := ⟨_, rfl⟩
    have hs1 : (s == 0) = false := by rw [← hs]; simpa using fun h => h0 (Int.sign_eq_zero_iff_zero.1 h)
    have HS := Lib.hid hs
    have HZ := Lib.hid h0
    clear hT hz hLH hx hb1 h0 hs
    have S := ((St.start w).alloc 25 [.bool b1, .slice p1 l1 K1] (w.heap.size)).alloc 27 [.bool false, .slice none 0 0, .int .i64 0] (w.heap.size + 1)
    try simp only [List.cons_append, List.nil_append] at S
    replace n1 := n1.hold S.hold
    have c0_0 := S.c 0 0 rfl rfl; have c0_1 := S.c 0 1 rfl rfl; obtain ⟨c1_0, c1_1, c1_2⟩ := S.c3 1 rfl
    go_enter Tryz.func108, Tryz.ntmps108
    go_wp2_with fail; clear c0_0 c0_1 c1_0 c1_1 c1_2
    refine (S.call (wsign_any ⟨_, _, _, by rw [HD.out.2.2.2.2.2], n1⟩ HD.out.2.2.2.2.1 HS.out)).mono ?_
    clear S
    rintro e w1 ⟨rfl, S, H⟩
    replace n1 := n1.hold H; clear H; have c0_0 := S.c 0 0 rfl rfl; have c0_1 := S.c 0 1 rfl rfl; obtain ⟨c1_0, c1_1, c1_2⟩ := S.c3 1 rfl; go_wp2_with fail; clear c0_0 c0_1 c1_0 c1_1 c1_2
    refine (S.call (tail_nat' n1 HD.out.2.2.2.2.1 (HD.out.1.below S.below))).mono ?_
    clear S
    rintro e w2 ⟨⟨t, rfl, ht⟩, S, H⟩
    replace n1 := n1.hold H; clear H; have c0_0 := S.c 0 0 rfl rfl; have c0_1 := S.c 0 1 rfl rfl; obtain ⟨c1_0, c1_1, c1_2⟩ := S.c3 1 rfl
    have htl := tail_le ht.out (by have := HZ.out; omega) HD.out.2.1.size
    have h1 := HD.out.2.1.1
    have h2 := HD.out.2.2.1
    have h3 := make_exp HZ.out ht.out HD.out.2.1
    obtain ⟨f, hf⟩ : ∃ f, e + (t : Int) = f := ⟨_, rfl⟩
    have hfb : -65536 ≤ f ∧ f ≤ 65536 := by omega
    have heb : -65536 ≤ e ∧ e ≤ 65536 := by omega
    have hwr : IntKind.i64.wrap (e + (t : Int)) = f := by rw [wrap_int (by omega) (by omega), hf]
    have hf1 : DyF (z / 2 ^ t) f x L H := by
      have := dyf_make HZ.out ht.out HD.out.2.1
      rw [hf, HD.out.2.2.2.1] at this
      exact this
    have HF := Lib.hid hf1
    have HB := Lib.hid (And.intro hfb heb)
    have HT := Lib.hid (show t ≤ 9223372036854775807 by omega)
    obtain ⟨o, ho⟩ : ∃ o, z / 2 ^ t = o := ⟨_, rfl⟩
    rw [ho] at HF
    have HO := Lib.hid ho
    clear htl h1 h2 h3 hf hfb heb hf1 ho ht; go_wp2_with fail; clear c0_0 c0_1 c1_0 c1_1 c1_2
    refine (S.call (exp_in e _ HB.out.2.1 HB.out.2.2)).mono ?_
    clear S
    rintro e w3 ⟨rfl, S, H⟩
    replace n1 := n1.hold H; clear H; have c0_0 := S.c 0 0 rfl rfl; have c0_1 := S.c 0 1 rfl rfl; obtain ⟨c1_0, c1_1, c1_2⟩ := S.c3 1 rfl; go_wp2_with fail; clear c0_0 c0_1 c1_0 c1_1 c1_2
    refine (S.call (exp_in f _ HB.out.1.1 HB.out.1.2)).mono ?_
    clear S
    rintro e w4 ⟨rfl, S, H⟩
    replace n1 := n1.hold H; clear H; have c0_0 := S.c 0 0 rfl rfl; have c0_1 := S.c 0 1 rfl rfl; obtain ⟨c1_0, c1_1, c1_2⟩ := S.c3 1 rfl; clear c0_0 c0_1 c1_0 c1_1 c1_2; have c0_0 := S.c 0 0 rfl rfl; have c0_1 := S.c 0 1 rfl rfl; obtain ⟨c1_0, c1_1, c1_2⟩ := S.c3 1 rfl; go_wp2_with fail; clear c0_0 c0_1 c1_0 c1_1 c1_2
    refine (S.call (wright_any (HD.out.1.below S.below) ⟨_, _, _, by rw [HD.out.2.2.2.2.2], n1⟩ HD.out.2.2.2.2.1 t HT.out o HO.out)).mono ?_
    clear S
    rintro e w5 ⟨⟨_, rfl, p, l, K, rfl, no⟩, S, H⟩
    replace n1 := n1.hold H; clear H; have c0_0 := S.c 0 0 rfl rfl; have c0_1 := S.c 0 1 rfl rfl; obtain ⟨c1_0, c1_1, c1_2⟩ := S.c3 1 rfl
    have H := S.hnew 25 [.bool (negB o), .slice p l K]
    replace S := S.al 25 [.bool (negB o), .slice p l K] (w5.heap.size)
    replace n1 := n1.hold H; replace no := no.hold H
    clear H; clear c0_0 c0_1 c1_0 c1_1 c1_2; have c0_0 := S.c 0 0 rfl rfl; have c0_1 := S.c 0 1 rfl rfl; obtain ⟨c1_0, c1_1, c1_2⟩ := S.c3 1 rfl; have c2_0 := S.c 2 0 rfl rfl; have c2_1 := S.c 2 1 rfl rfl
    obtain ⟨f1_0, f1_1, f1_2⟩ := S.f3 1 rfl
    have HP := S.put3 1 (.bool (negB o)) (.slice p l K) (.int .i64 f) rfl rfl; have H := HP.2; replace S := HP.1; clear HP
    replace n1 := n1.hold32 H; replace no := no.hold32 H
    clear H; go_wp2_with fail; obtain ⟨d1_0, d1_1, d1_2⟩ := S.c3 1 rfl
    exact bodyPost_ret (v := .tuple #[.agg #[.bool (negB o), .slice p l K, .int .i64 f], .int .i64 0]) (by simp [results, Tryz.f108, go_sem, d1_0, d1_1, d1_2]) rfl (⟨⟨_, rfl, negB o, p, l, K, o, f, rfl, rfl, no, HF⟩, S.below⟩)
set_option maxRecDepth 100000 in
set_option maxHeartbeats 4000000 in
theorem dtimes_any {va : Value} {z e : Int} {w : World} {L H : Nat} (hT : Tab w) (ha : IsInt w va z) (hz : ZF z e L H) (hLH : H + L ≤ 16384) (x : Rat) (hx : dq z e = x) :
    Calls Tryz.prog 121 #[va, .int .i64 e, .int .i64 0] w fun ev w' => (∃ u, ev = .returned (.tuple #[u, .int .i64 0]) ∧ IsD w' u x L H) ∧ Below w.heap.size w w' := by
  obtain ⟨p1, l1, K1, rfl, n1⟩ := ha
  obtain ⟨b1, hb1⟩ : ∃ b1, negB z = b1 := ⟨_, rfl⟩
  rw [hb1]
  have HD := Lib.hid (And.intro hT (And.intro hz (And.intro hLH (And.intro hx hb1))))
  clear hT hz hLH hx hb1
  have S := ((St.start w).alloc 25 [.bool b1, .slice p1 l1 K1] (w.heap.size)).alloc 27 [.bool false, .slice none 0 0, .int .i64 0] (w.heap.size + 1)
  try simp only [List.cons_append, List.nil_append] at S
  replace n1 := n1.hold S.hold
  have c0_0 := S.c 0 0 rfl rfl; have c0_1 := S.c 0 1 rfl rfl; obtain ⟨c1_0, c1_1, c1_2⟩ := S.c3 1 rfl
  go_enter Tryz.func121, Tryz.ntmps121
  go_wp2_with fail; clear c0_0 c0_1 c1_0 c1_1 c1_2
  refine (S.call (dmake_any (HD.out.1.below S.below) ⟨_, _, _, by rw [HD.out.2.2.2.2], n1⟩ HD.out.2.1 HD.out.2.2.1 x HD.out.2.2.2.1)).mono ?_
  clear S
  rintro e w1 ⟨⟨_, rfl, b, p, l, K, m, f, rfl, hb, nm, hm⟩, S, H⟩
  replace n1 := n1.hold H; clear H; have c0_0 := S.c 0 0 rfl rfl; have c0_1 := S.c 0 1 rfl rfl; obtain ⟨c1_0, c1_1, c1_2⟩ := S.c3 1 rfl
  obtain ⟨f1_0, f1_1, f1_2⟩ := S.f3 1 rfl
  have HP := S.put3 1 (.bool b) (.slice p l K) (.int .i64 f) rfl rfl; have H := HP.2; replace S := HP.1; clear HP
  replace n1 := n1.hold32 H; replace nm := nm.hold32 H
  clear H; go_wp2_with fail; obtain ⟨d1_0, d1_1, d1_2⟩ := S.c3 1 rfl
  exact bodyPost_ret (v := .tuple #[.agg #[.bool b, .slice p l K, .int .i64 f], .int .i64 0]) (by simp [results, Tryz.f121, go_sem, d1_0, d1_1, d1_2]) rfl (⟨⟨_, rfl, b, p, l, K, m, f, rfl, hb, nm, hm⟩, S.below⟩)
theorem dyc_abs {m e : Int} (h : DyC m e) : DyC ((m.natAbs : Nat) : Int) e := by
  rcases h with ⟨h1, h2⟩ | h
  · exact .inl ⟨by omega, h2⟩
  · exact .inr (by omega)
theorem dyf_abs {m e : Int} {x : Rat} {L H : Nat} (h : DyF m e x L H) : DyF ((m.natAbs : Nat) : Int) e x.abs L H :=
  ⟨dyc_abs h.1, ⟨h.2.1.1, by rw [Int.natAbs_natCast]; exact h.2.1.2⟩, by rw [← h.2.2, dq_abs]⟩
set_option maxRecDepth 100000 in
set_option maxHeartbeats 2000000 in
theorem dsign_any {va : Value} {x : Rat} {w : World} {L H : Nat} (ha : IsD w va x L H) (hk : H + L ≤ 16384) {s : Int} (hs : x.num.sign = s) :
    Calls Tryz.prog 57 #[va] w fun e w' => e = .returned (.int .i64 s) ∧ Below w.heap.size w w' := by
  obtain ⟨b, p, l, K, m, f, rfl, hb, nm, hm⟩ := ha
  have HD := Lib.hid (And.intro hk (show m.sign = s by rw [← dyc_sign hm.out]; exact hs))
  clear hk hs
  have S := (St.start w).alloc 27 [.bool b, .slice p l K, .int .i64 f] (w.heap.size)
  try simp only [List.nil_append] at S
  replace nm := nm.hold S.hold
  obtain ⟨c0_0, c0_1, c0_2⟩ := S.c3 0 rfl
  go_enter Tryz.func57, Tryz.ntmps57
  go_wp2_with fail; clear c0_0 c0_1 c0_2
  refine (S.call (wsign_any ⟨_, _, _, by rw [hb.out], nm⟩ (hm.out.max HD.out.1) HD.out.2)).mono ?_
  clear S
  rintro e w1 ⟨rfl, S, H⟩
  replace nm := nm.hold H; clear H; obtain ⟨c0_0, c0_1, c0_2⟩ := S.c3 0 rfl; go_wp2_with fail
  exact bodyPost_ret (v := .int .i64 s) (by simp [results, Tryz.f57, go_sem]) rfl (⟨rfl, S.below⟩)
set_option maxRecDepth 100000 in
set_option maxHeartbeats 4000000 in
theorem dabs_any {va : Value} {x : Rat} {w : World} {L H : Nat} (ha : IsD w va x L H) (hk : H + L ≤ 16384) :
    Calls Tryz.prog 119 #[va] w fun e w' => (∃ u, e = .returned u ∧ IsD w' u x.abs L H) ∧ Below w.heap.size w w' := by
  obtain ⟨b, p, l, K, m, f, rfl, hb, nm, hm⟩ := ha
  have HK := Lib.hid hk
  clear hk
  have S := ((St.start w).alloc 27 [.bool b, .slice p l K, .int .i64 f] (w.heap.size)).alloc 27 [.bool false, .slice none 0 0, .int .i64 0] (w.heap.size + 1)
  try simp only [List.cons_append, List.nil_append] at S
  replace nm := nm.hold S.hold
  obtain ⟨c0_0, c0_1, c0_2⟩ := S.c3 0 rfl; obtain ⟨c1_0, c1_1, c1_2⟩ := S.c3 1 rfl
  go_enter Tryz.func119, Tryz.ntmps119
  go_upto_region 1 with fail
  clear c0_0 c0_1 c0_2 c1_0 c1_1 c1_2
  generalize ((w.alloc (.cells #[.bool b, .slice p l K, .int .i64 f] 27)).alloc (.cells #[.bool false, .slice none 0 0, .int .i64 0] 27)) = w1 at S nm ⊢
  have HH := (Hold.drew w1).to32
  replace nm := nm.hold32 HH
  replace S := S.drew
  refine wp_region_held_drew (S := fun W => W.cell? ⟨w.heap.size, 0, none⟩ = some (.bool b) ∧ W.cell? ⟨w.heap.size, 1, none⟩ = some (.slice p l K) ∧ W.cell? ⟨w.heap.size, 2, none⟩ = some (.int .i64 f)) (by kernel_rfl) (S.c3 0 rfl) (fun hS => ?_)
  generalize w1.drew = w2 at S nm HH hS ⊢
  refine tk 0 hS ?_
  refine tk 1 hS ?_
  refine tk 3 hS ?_
  refine tk 4 hS ?_
  refine rd 2 fun KK hKK => ?_
  go_simp; clear hS
  refine (S.call (wabs_any ⟨_, _, _, by rw [hb.out], nm⟩ (hm.out.max HK.out) ((m.natAbs : Nat) : Int) rfl)).mono ?_
  clear S
  rintro e w3 ⟨⟨_, rfl, pa, la, Ka, rfl, na⟩, S, H⟩
  replace nm := nm.hold H; replace HH := HH.trans H.to32; clear H
  go_wp2_with fail
  refine ho hKK (S.c3 0 rfl) fun hS => ?_
  clear hKK KK
  refine tk 5 hS ?_
  refine rd 6 fun KK hKK => ?_
  obtain ⟨c0, c1, c2⟩ := S.c3 1 rfl; obtain ⟨f0, f1, f2⟩ := S.f3 1 rfl
  go_simp; clear hS c0 f0 c1 f1 c2 f2
  have HP := S.put3 1 (.bool (negB ((m.natAbs : Nat) : Int))) (.slice pa la Ka) (.int .i64 f) rfl rfl; have H := HP.2; replace S := HP.1; clear HP
  replace nm := nm.hold32 H; replace na := na.hold32 H; replace HH := HH.trans H; clear H
  refine ho hKK (S.c3 0 rfl) fun hS => ?_
  generalize (((w3.setCell ⟨w.heap.size + 1, 0, none⟩ (.bool (negB ((m.natAbs : Nat) : Int)))).setCell ⟨w.heap.size + 1, 1, none⟩ (.slice pa la Ka)).setCell ⟨w.heap.size + 1, 2, none⟩ (.int .i64 f)) = w4 at S nm na HH hS ⊢
  clear hKK KK
  refine wpAnyH_done (by kernel_rfl) ?_ _
  clear hS HH; obtain ⟨c0_0, c0_1, c0_2⟩ := S.c3 0 rfl; obtain ⟨c1_0, c1_1, c1_2⟩ := S.c3 1 rfl; go_wp2_with fail; obtain ⟨d1_0, d1_1, d1_2⟩ := S.c3 1 rfl
  exact bodyPost_ret (v := .agg #[.bool (negB ((m.natAbs : Nat) : Int)), .slice pa la Ka, .int .i64 f]) (by simp [results, Tryz.f119, go_sem, d1_0, d1_1, d1_2]) rfl (⟨⟨_, rfl, _, pa, la, Ka, ((m.natAbs : Nat) : Int), f, rfl, rfl, na, dyf_abs hm.out⟩, S.below⟩)
set_option maxRecDepth 100000 in
set_option maxHeartbeats 4000000 in
theorem dcopied_any {va : Value} {x : Rat} {w : World} {L H : Nat} (ha : IsD w va x L H) (hk : H + L ≤ 16384) :
    Calls Tryz.prog 122 #[va] w fun e w' => (∃ u, e = .returned u ∧ IsD w' u x L H) ∧ Below w.heap.size w w' := by
  obtain ⟨b, p, l, K, m, f, rfl, hb, nm, hm⟩ := ha
  have HK := Lib.hid hk
  clear hk
  have S := ((St.start w).alloc 27 [.bool b, .slice p l K, .int .i64 f] (w.heap.size)).alloc 27 [.bool false, .slice none 0 0, .int .i64 0] (w.heap.size + 1)
  try simp only [List.cons_append, List.nil_append] at S
  replace nm := nm.hold S.hold
  obtain ⟨c0_0, c0_1, c0_2⟩ := S.c3 0 rfl; obtain ⟨c1_0, c1_1, c1_2⟩ := S.c3 1 rfl
  go_enter Tryz.func122, Tryz.ntmps122
  go_upto_region 1 with fail
  clear c0_0 c0_1 c0_2 c1_0 c1_1 c1_2
  generalize ((w.alloc (.cells #[.bool b, .slice p l K, .int .i64 f] 27)).alloc (.cells #[.bool false, .slice none 0 0, .int .i64 0] 27)) = w1 at S nm ⊢
  have HH := (Hold.drew w1).to32
  replace nm := nm.hold32 HH
  replace S := S.drew
  refine wp_region_held_drew (S := fun W => W.cell? ⟨w.heap.size, 0, none⟩ = some (.bool b) ∧ W.cell? ⟨w.heap.size, 1, none⟩ = some (.slice p l K) ∧ W.cell? ⟨w.heap.size, 2, none⟩ = some (.int .i64 f)) (by kernel_rfl) (S.c3 0 rfl) (fun hS => ?_)
  generalize w1.drew = w2 at S nm HH hS ⊢
  refine tk 0 hS ?_
  refine tk 1 hS ?_
  refine tk 2 hS ?_
  refine tk 3 hS ?_
  refine tk 4 hS ?_
  refine tk 5 hS ?_
  refine tk 8 hS ?_
  refine tk 9 hS ?_
  refine rd 6 fun KK hKK => ?_
  go_simp; clear hS
  refine (S.call (clone_any nm (hm.out.max HK.out))).mono ?_
  clear S
  rintro e w3 ⟨⟨_, rfl, nc⟩, S, H⟩
  replace nm := nm.hold H; replace HH := HH.trans H.to32; clear H
  obtain ⟨pc, lc, Kc, rfl⟩ := nc.form
  go_wp2_with fail
  refine ho hKK (S.c3 0 rfl) fun hS => ?_
  clear hKK KK
  refine tk 7 hS ?_
  refine tk 10 hS ?_
  refine rd 11 fun KK hKK => ?_
  obtain ⟨c0, c1, c2⟩ := S.c3 1 rfl; obtain ⟨f0, f1, f2⟩ := S.f3 1 rfl
  go_simp; clear hS c0 f0 c1 f1 c2 f2
  have HP := S.put3 1 (.bool b) (.slice pc lc Kc) (.int .i64 f) rfl rfl; have H := HP.2; replace S := HP.1; clear HP
  replace nm := nm.hold32 H; replace nc := nc.hold32 H; replace HH := HH.trans H; clear H
  refine ho hKK (S.c3 0 rfl) fun hS => ?_
  generalize (((w3.setCell ⟨w.heap.size + 1, 0, none⟩ (.bool b)).setCell ⟨w.heap.size + 1, 1, none⟩ (.slice pc lc Kc)).setCell ⟨w.heap.size + 1, 2, none⟩ (.int .i64 f)) = w4 at S nm nc HH hS ⊢
  clear hKK KK
  refine wpAnyH_done (by kernel_rfl) ?_ _
  clear hS HH; obtain ⟨c0_0, c0_1, c0_2⟩ := S.c3 0 rfl; obtain ⟨c1_0, c1_1, c1_2⟩ := S.c3 1 rfl; go_wp2_with fail; obtain ⟨d1_0, d1_1, d1_2⟩ := S.c3 1 rfl
  exact bodyPost_ret (v := .agg #[.bool b, .slice pc lc Kc, .int .i64 f]) (by simp [results, Tryz.f122, go_sem, d1_0, d1_1, d1_2]) rfl (⟨⟨_, rfl, b, pc, lc, Kc, m, f, rfl, hb, nc, hm⟩, S.below⟩)
set_option maxRecDepth 100000 in
set_option maxHeartbeats 4000000 in
theorem power_any {p : Option Addr} {l K : Nat} {m f : Int} {b : Bool} {w : World} (nm : IsNat w (.slice p l K) m.natAbs) (hm : m.natAbs < maxN) {t : Nat} (ht : nbits m.natAbs = t) (z : Int) (hz : (t : Int) + f = z) (h0 : -1000000 ≤ z) (h1 : z ≤ 1000000) :
    Calls Tryz.prog 117 #[.agg #[.bool b, .slice p l K, .int .i64 f]] w fun e w' => e = .returned (.int .i64 z) ∧ Below w.heap.size w w' := by
  have HD := Lib.hid (And.intro hm ht)
  have hwr : IntKind.i64.wrap ((t : Int) + f) = z := by rw [wrap_int (by omega) (by omega), hz]
  clear hm ht hz h0 h1
  have S := (St.start w).alloc 27 [.bool b, .slice p l K, .int .i64 f] (w.heap.size)
  try simp only [List.nil_append] at S
  replace nm := nm.hold S.hold
  obtain ⟨c0_0, c0_1, c0_2⟩ := S.c3 0 rfl
  go_enter Tryz.func117, Tryz.ntmps117
  go_upto_region 1 with fail
  clear c0_0 c0_1 c0_2
  replace nm := nm.hold (Hold.drew _)
  replace S := S.drew
  refine wp_region_held_drew (S := fun W => W.cell? ⟨w.heap.size, 1, none⟩ = some (.slice p l K) ∧ W.cell? ⟨w.heap.size, 2, none⟩ = some (.int .i64 f)) (by kernel_rfl) ⟨(S.c 0 1 rfl rfl), (S.c 0 2 rfl rfl)⟩ (fun hS => ?_)
  refine tk 0 hS ?_
  refine tk 1 hS ?_
  refine tk 2 hS ?_
  refine tk 4 hS ?_
  refine tk 5 hS ?_
  refine rd 3 fun KK hKK => ?_
  go_simp
  refine (S.call (bits_nat nm HD.out.1 HD.out.2)).mono ?_; clear S; rintro e w1 ⟨rfl, S, H⟩; replace nm := nm.hold H; clear H
  go_wp2_with fail
  refine ho hKK ⟨(S.c 0 1 rfl rfl), (S.c 0 2 rfl rfl)⟩ fun hS => ?_
  clear hKK KK
  refine tk 6 hS ?_
  refine rd 7 fun KK hKK => ?_
  go_simp
  refine ho hKK ⟨(S.c 0 1 rfl rfl), (S.c 0 2 rfl rfl)⟩ fun hS => ?_
  clear hKK KK
  refine wpAnyH_done (by kernel_rfl) ?_ _
  go_wp2_with fail
  exact bodyPost_ret (v := .int .i64 z) (by simp [results, Tryz.f117, go_sem]) rfl (⟨rfl, S.below⟩)
theorem cmp_int' (a b c : Int) (h : cmpI a b = c) (w : World) : Calls Tryz.prog 116 #[.int .i64 a, .int .i64 b] w fun e w' => e = .returned (.int .i64 c) ∧ Below w.heap.size w w' :=
  (cmp_int a b w).mono fun _ _ ⟨h1, h2⟩ => ⟨by rw [h1, h], h2 ▸ Below.refl _ w⟩
set_option maxRecDepth 100000 in
set_option maxHeartbeats 4000000 in
theorem dalign_lt {b1 b2 : Bool} {p1 p2 : Option Addr} {l1 l2 K1 K2 : Nat} {m1 m2 e1 e2 : Int} {w : World} (h1 : Hid (negB m1 = b1)) (n1 : IsNat w (.slice p1 l1 K1) m1.natAbs) (h2 : Hid (negB m2 = b2)) (n2 : IsNat w (.slice p2 l2 K2) m2.natAbs) (hm1 : m1.natAbs < maxN) (hm2 : m2.natAbs < maxN)
    (he1 : -1000000 ≤ e1 ∧ e1 ≤ 1000000) (he2 : -1000000 ≤ e2 ∧ e2 ≤ 1000000) (hlt : e2 < e1) (s : Nat) (hs : e1 - e2 = s) (hfit : m1.natAbs * 2 ^ s < maxN) (X Y : Int) (hX : m1 * 2 ^ s = X) (hY : m2 = Y) :
    Calls Tryz.prog 118 #[.agg #[.bool b1, .slice p1 l1 K1, .int .i64 e1], .agg #[.bool b2, .slice p2 l2 K2, .int .i64 e2]] w fun e w' => (∃ u v, e = .returned (.tuple #[u, v, .int .i64 e2, .int .i64 0]) ∧ IsInt w' u X ∧ IsInt w' v Y) ∧ Below w.heap.size w w' := by
  have hmin : min e1 e2 = e2 := by omega
  have hwr : IntKind.i64.wrap (e1 - e2) = (s : Int) := by rw [wrap_int (by omega) (by omega), hs]
  have hw0 : IntKind.i64.wrap (e2 - e2) = 0 := by rw [Int.sub_self]; rfl
  have HD := Lib.hid (And.intro hm1 (And.intro hm2 (And.intro (show s ≤ 9223372036854775807 by omega) (And.intro hfit (And.intro hX hY)))))
  clear hm1 hm2 he1 he2 hs hfit hX hY hlt
  have S := ((((St.start w).alloc 27 [.bool b1, .slice p1 l1 K1, .int .i64 e1] (w.heap.size)).alloc 27 [.bool b2, .slice p2 l2 K2, .int .i64 e2] (w.heap.size + 1)).alloc 25 [.bool false, .slice none 0 0] (w.heap.size + 1 + 1)).alloc 25 [.bool false, .slice none 0 0] (w.heap.size + 1 + 1 + 1)
  try simp only [List.cons_append, List.nil_append] at S
  replace n1 := n1.hold S.hold; replace n2 := n2.hold S.hold
  obtain ⟨c0_0, c0_1, c0_2⟩ := S.c3 0 rfl; obtain ⟨c1_0, c1_1, c1_2⟩ := S.c3 1 rfl; have c2_0 := S.c 2 0 rfl rfl; have c2_1 := S.c 2 1 rfl rfl; have c3_0 := S.c 3 0 rfl rfl; have c3_1 := S.c 3 1 rfl rfl
  go_enter Tryz.func118, Tryz.ntmps118
  go_wp2_with fail; clear c0_0 c0_1 c0_2 c1_0 c1_1 c1_2 c2_0 c2_1 c3_0 c3_1
  refine (S.call (wleft_any ⟨_, _, _, by rw [h1.out], n1⟩ HD.out.1 s HD.out.2.2.1 HD.out.2.2.2.1 X HD.out.2.2.2.2.1)).mono ?_
  clear S
  rintro e w1 ⟨⟨_, rfl, pa, la, Ka, rfl, na⟩, S, H⟩
  replace n1 := n1.hold H; replace n2 := n2.hold H
  clear H; obtain ⟨c0_0, c0_1, c0_2⟩ := S.c3 0 rfl; obtain ⟨c1_0, c1_1, c1_2⟩ := S.c3 1 rfl; have c2_0 := S.c 2 0 rfl rfl; have c2_1 := S.c 2 1 rfl rfl; have c3_0 := S.c 3 0 rfl rfl; have c3_1 := S.c 3 1 rfl rfl
  have H := S.hnew 25 [.bool (negB X), .slice pa la Ka]
  replace S := S.al 25 [.bool (negB X), .slice pa la Ka] (w1.heap.size)
  refine iv3 H n1 n2 na ?_; clear n1 n2 na; intro n1 n2 na
  clear H; clear c0_0 c0_1 c0_2 c1_0 c1_1 c1_2 c2_0 c2_1 c3_0 c3_1; obtain ⟨c0_0, c0_1, c0_2⟩ := S.c3 0 rfl; obtain ⟨c1_0, c1_1, c1_2⟩ := S.c3 1 rfl; have c2_0 := S.c 2 0 rfl rfl; have c2_1 := S.c 2 1 rfl rfl; have c3_0 := S.c 3 0 rfl rfl; have c3_1 := S.c 3 1 rfl rfl; have c4_0 := S.c 4 0 rfl rfl; have c4_1 := S.c 4 1 rfl rfl; go_wp2_with fail; clear c0_0 c0_1 c0_2 c1_0 c1_1 c1_2 c2_0 c2_1 c3_0 c3_1 c4_0 c4_1
  refine (S.call (wleft_any ⟨_, _, _, by rw [h2.out], n2⟩ HD.out.2.1 0 (by decide) (by rw [Nat.pow_zero, Nat.mul_one]; exact HD.out.2.1) Y (by rw [← HD.out.2.2.2.2.2]; simp))).mono ?_
  clear S
  rintro e w2 ⟨⟨_, rfl, pb, lb, Kb, rfl, nb⟩, S, H⟩
  refine iv3 H n1 n2 na ?_; clear n1 n2 na; intro n1 n2 na
  clear H; obtain ⟨c0_0, c0_1, c0_2⟩ := S.c3 0 rfl; obtain ⟨c1_0, c1_1, c1_2⟩ := S.c3 1 rfl; have c2_0 := S.c 2 0 rfl rfl; have c2_1 := S.c 2 1 rfl rfl; have c3_0 := S.c 3 0 rfl rfl; have c3_1 := S.c 3 1 rfl rfl; have c4_0 := S.c 4 0 rfl rfl; have c4_1 := S.c 4 1 rfl rfl
  have H := S.hnew 25 [.bool (negB Y), .slice pb lb Kb]
  replace S := S.al 25 [.bool (negB Y), .slice pb lb Kb] (w2.heap.size)
  refine iv4 H n1 n2 na nb ?_; clear n1 n2 na nb; intro n1 n2 na nb
  clear H; clear c0_0 c0_1 c0_2 c1_0 c1_1 c1_2 c2_0 c2_1 c3_0 c3_1 c4_0 c4_1; obtain ⟨c0_0, c0_1, c0_2⟩ := S.c3 0 rfl; obtain ⟨c1_0, c1_1, c1_2⟩ := S.c3 1 rfl; have c2_0 := S.c 2 0 rfl rfl; have c2_1 := S.c 2 1 rfl rfl; have c3_0 := S.c 3 0 rfl rfl; have c3_1 := S.c 3 1 rfl rfl; have c4_0 := S.c 4 0 rfl rfl; have c4_1 := S.c 4 1 rfl rfl; have c5_0 := S.c 5 0 rfl rfl; have c5_1 := S.c 5 1 rfl rfl
  go_upto_region 4 with fail
  clear c0_0 c0_1 c0_2 c1_0 c1_1 c1_2 c2_0 c2_1 c3_0 c3_1 c4_0 c4_1 c5_0 c5_1
  generalize (w2.alloc (.cells #[.bool (negB Y), .slice pb lb Kb] 25)) = w3 at S n1 n2 na nb ⊢
  have HH := Hold.drew w3
  refine iv4 HH n1 n2 na nb ?_; clear n1 n2 na nb; intro n1 n2 na nb
  replace S := S.drew
  refine wp_region_held_drew (S := fun W => W.cell? ⟨w1.heap.size, 0, none⟩ = some (.bool (negB X)) ∧ W.cell? ⟨w1.heap.size, 1, none⟩ = some (.slice pa la Ka) ∧ W.cell? ⟨w2.heap.size, 0, none⟩ = some (.bool (negB Y)) ∧ W.cell? ⟨w2.heap.size, 1, none⟩ = some (.slice pb lb Kb)) (by kernel_rfl) ⟨(S.c 4 0 rfl rfl), ⟨(S.c 4 1 rfl rfl), ⟨(S.c 5 0 rfl rfl), (S.c 5 1 rfl rfl)⟩⟩⟩ (fun hS => ?_)
  generalize w3.drew = w4 at S n1 n2 na nb HH hS ⊢
  refine tk 0 hS ?_
  refine tk 1 hS ?_
  refine tk 2 hS ?_
  refine tk 3 hS ?_
  refine tk 4 hS ?_
  refine rd 5 fun KK hKK => ?_
  go_simp; clear hS
  have H := S.hnew 36 [.int .i64 0, .int .i64 0]
  replace S := S.al 36 [.int .i64 0, .int .i64 0] (w4.heap.size)
  refine iv4 H n1 n2 na nb ?_; clear n1 n2 na nb; intro n1 n2 na nb; replace HH := HH.trans H; clear H
  refine ho hKK ⟨(S.c 4 0 rfl rfl), ⟨(S.c 4 1 rfl rfl), ⟨(S.c 5 0 rfl rfl), (S.c 5 1 rfl rfl)⟩⟩⟩ fun hS => ?_
  generalize (w4.alloc (.cells #[.int .i64 0, .int .i64 0] 36)) = w5 at S n1 n2 na nb HH hS ⊢
  clear hKK KK
  refine rd 6 fun KK hKK => ?_
  go_simp; clear hS
  refine (S.call (or_two S 6 rfl)).mono ?_
  clear S
  rintro e w6 ⟨rfl, S, H⟩
  refine iv4 H n1 n2 na nb ?_; clear n1 n2 na nb; intro n1 n2 na nb; replace HH := HH.trans H; clear H
  go_wp2_with fail
  refine ho hKK ⟨(S.c 4 0 rfl rfl), ⟨(S.c 4 1 rfl rfl), ⟨(S.c 5 0 rfl rfl), (S.c 5 1 rfl rfl)⟩⟩⟩ fun hS => ?_
  clear hKK KK
  refine rd 7 fun KK hKK => ?_
  have c0 := S.c 2 0 rfl rfl; have f0 := S.f 2 0 rfl; have c1 := S.c 2 1 rfl rfl; have f1 := S.f 2 1 rfl; go_simp; clear hS c0 f0 c1 f1
  have H := S.hset 2 0 (.bool (negB X)) rfl rfl (by intro q n e; cases e)
  replace S := S.set 2 0 (.bool (negB X)) rfl
  refine iv4 H n1 n2 na nb ?_; clear n1 n2 na nb; intro n1 n2 na nb; replace HH := HH.trans H; clear H
  have H := S.hset 2 1 (.slice pa la Ka) rfl rfl (by intro q n e; cases e)
  replace S := S.set 2 1 (.slice pa la Ka) rfl
  refine iv4 H n1 n2 na nb ?_; clear n1 n2 na nb; intro n1 n2 na nb; replace HH := HH.trans H; clear H
  refine ho hKK ⟨(S.c 4 0 rfl rfl), ⟨(S.c 4 1 rfl rfl), ⟨(S.c 5 0 rfl rfl), (S.c 5 1 rfl rfl)⟩⟩⟩ fun hS => ?_
  generalize ((w6.setCell ⟨w.heap.size + 1 + 1, 0, none⟩ (.bool (negB X))).setCell ⟨w.heap.size + 1 + 1, 1, none⟩ (.slice pa la Ka)) = w7 at S n1 n2 na nb HH hS ⊢
  clear hKK KK
  refine rd 8 fun KK hKK => ?_
  have c0 := S.c 3 0 rfl rfl; have f0 := S.f 3 0 rfl; have c1 := S.c 3 1 rfl rfl; have f1 := S.f 3 1 rfl; go_simp; clear hS c0 f0 c1 f1
  have H := S.hset 3 0 (.bool (negB Y)) rfl rfl (by intro q n e; cases e)
  replace S := S.set 3 0 (.bool (negB Y)) rfl
  refine iv4 H n1 n2 na nb ?_; clear n1 n2 na nb; intro n1 n2 na nb; replace HH := HH.trans H; clear H
  have H := S.hset 3 1 (.slice pb lb Kb) rfl rfl (by intro q n e; cases e)
  replace S := S.set 3 1 (.slice pb lb Kb) rfl
  refine iv4 H n1 n2 na nb ?_; clear n1 n2 na nb; intro n1 n2 na nb; replace HH := HH.trans H; clear H
  refine ho hKK ⟨(S.c 4 0 rfl rfl), ⟨(S.c 4 1 rfl rfl), ⟨(S.c 5 0 rfl rfl), (S.c 5 1 rfl rfl)⟩⟩⟩ fun hS => ?_
  generalize ((w7.setCell ⟨w.heap.size + 1 + 1 + 1, 0, none⟩ (.bool (negB Y))).setCell ⟨w.heap.size + 1 + 1 + 1, 1, none⟩ (.slice pb lb Kb)) = w8 at S n1 n2 na nb HH hS ⊢
  clear hKK KK
  refine rd 9 fun KK hKK => ?_
  go_simp
  refine ho hKK hS fun hS => ?_
  clear hKK KK
  refine rd 10 fun KK hKK => ?_
  go_simp
  refine ho hKK hS fun hS => ?_
  clear hKK KK
  refine wpAnyH_done (by kernel_rfl) ?_ _
  clear hS HH; obtain ⟨c0_0, c0_1, c0_2⟩ := S.c3 0 rfl; obtain ⟨c1_0, c1_1, c1_2⟩ := S.c3 1 rfl; have c2_0 := S.c 2 0 rfl rfl; have c2_1 := S.c 2 1 rfl rfl; have c3_0 := S.c 3 0 rfl rfl; have c3_1 := S.c 3 1 rfl rfl; have c4_0 := S.c 4 0 rfl rfl; have c4_1 := S.c 4 1 rfl rfl; have c5_0 := S.c 5 0 rfl rfl; have c5_1 := S.c 5 1 rfl rfl; go_wp2_with fail; have d2_0 := S.c 2 0 rfl rfl; have d2_1 := S.c 2 1 rfl rfl; have d3_0 := S.c 3 0 rfl rfl; have d3_1 := S.c 3 1 rfl rfl
  exact bodyPost_ret (v := .tuple #[.agg #[.bool (negB X), .slice pa la Ka], .agg #[.bool (negB Y), .slice pb lb Kb], .int .i64 e2, .int .i64 0]) (by simp [results, Tryz.f118, go_sem, d2_0, d2_1, d3_0, d3_1]) rfl (⟨⟨_, _, rfl, ⟨pa, la, Ka, rfl, na⟩, ⟨pb, lb, Kb, rfl, nb⟩⟩, S.below⟩)
set_option maxRecDepth 100000 in
set_option maxHeartbeats 4000000 in
theorem dalign_ge {b1 b2 : Bool} {p1 p2 : Option Addr} {l1 l2 K1 K2 : Nat} {m1 m2 e1 e2 : Int} {w : World} (h1 : Hid (negB m1 = b1)) (n1 : IsNat w (.slice p1 l1 K1) m1.natAbs) (h2 : Hid (negB m2 = b2)) (n2 : IsNat w (.slice p2 l2 K2) m2.natAbs) (hm1 : m1.natAbs < maxN) (hm2 : m2.natAbs < maxN)
    (he1 : -1000000 ≤ e1 ∧ e1 ≤ 1000000) (he2 : -1000000 ≤ e2 ∧ e2 ≤ 1000000) (hlt : ¬ e2 < e1) (s : Nat) (hs : e2 - e1 = s) (hfit : m2.natAbs * 2 ^ s < maxN) (X Y : Int) (hX : m1 = X) (hY : m2 * 2 ^ s = Y) :
    Calls Tryz.prog 118 #[.agg #[.bool b1, .slice p1 l1 K1, .int .i64 e1], .agg #[.bool b2, .slice p2 l2 K2, .int .i64 e2]] w fun e w' => (∃ u v, e = .returned (.tuple #[u, v, .int .i64 e1, .int .i64 0]) ∧ IsInt w' u X ∧ IsInt w' v Y) ∧ Below w.heap.size w w' := by
  have hmin : min e1 e2 = e1 := by omega
  have hwr : IntKind.i64.wrap (e2 - e1) = (s : Int) := by rw [wrap_int (by omega) (by omega), hs]
  have hw0 : IntKind.i64.wrap (e1 - e1) = 0 := by rw [Int.sub_self]; rfl
  have HD := Lib.hid (And.intro hm1 (And.intro hm2 (And.intro (show s ≤ 9223372036854775807 by omega) (And.intro hfit (And.intro hX hY)))))
  clear hm1 hm2 he1 he2 hs hfit hX hY hlt
  have S := ((((St.start w).alloc 27 [.bool b1, .slice p1 l1 K1, .int .i64 e1] (w.heap.size)).alloc 27 [.bool b2, .slice p2 l2 K2, .int .i64 e2] (w.heap.size + 1)).alloc 25 [.bool false, .slice none 0 0] (w.heap.size + 1 + 1)).alloc 25 [.bool false, .slice none 0 0] (w.heap.size + 1 + 1 + 1)
  try simp only [List.cons_append, List.nil_append] at S
  replace n1 := n1.hold S.hold; replace n2 := n2.hold S.hold
  obtain ⟨c0_0, c0_1, c0_2⟩ := S.c3 0 rfl; obtain ⟨c1_0, c1_1, c1_2⟩ := S.c3 1 rfl; have c2_0 := S.c 2 0 rfl rfl; have c2_1 := S.c 2 1 rfl rfl; have c3_0 := S.c 3 0 rfl rfl; have c3_1 := S.c 3 1 rfl rfl
  go_enter Tryz.func118, Tryz.ntmps118
  go_wp2_with fail; clear c0_0 c0_1 c0_2 c1_0 c1_1 c1_2 c2_0 c2_1 c3_0 c3_1
  refine (S.call (wleft_any ⟨_, _, _, by rw [h1.out], n1⟩ HD.out.1 0 (by decide) (by rw [Nat.pow_zero, Nat.mul_one]; exact HD.out.1) X (by rw [← HD.out.2.2.2.2.1]; simp))).mono ?_
  clear S
  rintro e w1 ⟨⟨_, rfl, pa, la, Ka, rfl, na⟩, S, H⟩
  replace n1 := n1.hold H; replace n2 := n2.hold H
  clear H; obtain ⟨c0_0, c0_1, c0_2⟩ := S.c3 0 rfl; obtain ⟨c1_0, c1_1, c1_2⟩ := S.c3 1 rfl; have c2_0 := S.c 2 0 rfl rfl; have c2_1 := S.c 2 1 rfl rfl; have c3_0 := S.c 3 0 rfl rfl; have c3_1 := S.c 3 1 rfl rfl
  have H := S.hnew 25 [.bool (negB X), .slice pa la Ka]
  replace S := S.al 25 [.bool (negB X), .slice pa la Ka] (w1.heap.size)
  refine iv3 H n1 n2 na ?_; clear n1 n2 na; intro n1 n2 na
  clear H; clear c0_0 c0_1 c0_2 c1_0 c1_1 c1_2 c2_0 c2_1 c3_0 c3_1; obtain ⟨c0_0, c0_1, c0_2⟩ := S.c3 0 rfl; obtain ⟨c1_0, c1_1, c1_2⟩ := S.c3 1 rfl; have c2_0 := S.c 2 0 rfl rfl; have c2_1 := S.c 2 1 rfl rfl; have c3_0 := S.c 3 0 rfl rfl; have c3_1 := S.c 3 1 rfl rfl; have c4_0 := S.c 4 0 rfl rfl; have c4_1 := S.c 4 1 rfl rfl; go_wp2_with fail; clear c0_0 c0_1 c0_2 c1_0 c1_1 c1_2 c2_0 c2_1 c3_0 c3_1 c4_0 c4_1
  refine (S.call (wleft_any ⟨_, _, _, by rw [h2.out], n2⟩ HD.out.2.1 s HD.out.2.2.1 HD.out.2.2.2.1 Y HD.out.2.2.2.2.2)).mono ?_
  clear S
  rintro e w2 ⟨⟨_, rfl, pb, lb, Kb, rfl, nb⟩, S, H⟩
  refine iv3 H n1 n2 na ?_; clear n1 n2 na; intro n1 n2 na
  clear H; obtain ⟨c0_0, c0_1, c0_2⟩ := S.c3 0 rfl; obtain ⟨c1_0, c1_1, c1_2⟩ := S.c3 1 rfl; have c2_0 := S.c 2 0 rfl rfl; have c2_1 := S.c 2 1 rfl rfl; have c3_0 := S.c 3 0 rfl rfl; have c3_1 := S.c 3 1 rfl rfl; have c4_0 := S.c 4 0 rfl rfl; have c4_1 := S.c 4 1 rfl rfl
  have H := S.hnew 25 [.bool (negB Y), .slice pb lb Kb]
  replace S := S.al 25 [.bool (negB Y), .slice pb lb Kb] (w2.heap.size)
  refine iv4 H n1 n2 na nb ?_; clear n1 n2 na nb; intro n1 n2 na nb
  clear H; clear c0_0 c0_1 c0_2 c1_0 c1_1 c1_2 c2_0 c2_1 c3_0 c3_1 c4_0 c4_1; obtain ⟨c0_0, c0_1, c0_2⟩ := S.c3 0 rfl; obtain ⟨c1_0, c1_1, c1_2⟩ := S.c3 1 rfl; have c2_0 := S.c 2 0 rfl rfl; have c2_1 := S.c 2 1 rfl rfl; have c3_0 := S.c 3 0 rfl rfl; have c3_1 := S.c 3 1 rfl rfl; have c4_0 := S.c 4 0 rfl rfl; have c4_1 := S.c 4 1 rfl rfl; have c5_0 := S.c 5 0 rfl rfl; have c5_1 := S.c 5 1 rfl rfl
  go_upto_region 4 with fail
  clear c0_0 c0_1 c0_2 c1_0 c1_1 c1_2 c2_0 c2_1 c3_0 c3_1 c4_0 c4_1 c5_0 c5_1
  generalize (w2.alloc (.cells #[.bool (negB Y), .slice pb lb Kb] 25)) = w3 at S n1 n2 na nb ⊢
  have HH := Hold.drew w3
  refine iv4 HH n1 n2 na nb ?_; clear n1 n2 na nb; intro n1 n2 na nb
  replace S := S.drew
  refine wp_region_held_drew (S := fun W => W.cell? ⟨w1.heap.size, 0, none⟩ = some (.bool (negB X)) ∧ W.cell? ⟨w1.heap.size, 1, none⟩ = some (.slice pa la Ka) ∧ W.cell? ⟨w2.heap.size, 0, none⟩ = some (.bool (negB Y)) ∧ W.cell? ⟨w2.heap.size, 1, none⟩ = some (.slice pb lb Kb)) (by kernel_rfl) ⟨(S.c 4 0 rfl rfl), ⟨(S.c 4 1 rfl rfl), ⟨(S.c 5 0 rfl rfl), (S.c 5 1 rfl rfl)⟩⟩⟩ (fun hS => ?_)
  generalize w3.drew = w4 at S n1 n2 na nb HH hS ⊢
  refine tk 0 hS ?_
  refine tk 1 hS ?_
  refine tk 2 hS ?_
  refine tk 3 hS ?_
  refine tk 4 hS ?_
  refine rd 5 fun KK hKK => ?_
  go_simp; clear hS
  have H := S.hnew 36 [.int .i64 0, .int .i64 0]
  replace S := S.al 36 [.int .i64 0, .int .i64 0] (w4.heap.size)
  refine iv4 H n1 n2 na nb ?_; clear n1 n2 na nb; intro n1 n2 na nb; replace HH := HH.trans H; clear H
  refine ho hKK ⟨(S.c 4 0 rfl rfl), ⟨(S.c 4 1 rfl rfl), ⟨(S.c 5 0 rfl rfl), (S.c 5 1 rfl rfl)⟩⟩⟩ fun hS => ?_
  generalize (w4.alloc (.cells #[.int .i64 0, .int .i64 0] 36)) = w5 at S n1 n2 na nb HH hS ⊢
  clear hKK KK
  refine rd 6 fun KK hKK => ?_
  go_simp; clear hS
  refine (S.call (or_two S 6 rfl)).mono ?_
  clear S
  rintro e w6 ⟨rfl, S, H⟩
  refine iv4 H n1 n2 na nb ?_; clear n1 n2 na nb; intro n1 n2 na nb; replace HH := HH.trans H; clear H
  go_wp2_with fail
  refine ho hKK ⟨(S.c 4 0 rfl rfl), ⟨(S.c 4 1 rfl rfl), ⟨(S.c 5 0 rfl rfl), (S.c 5 1 rfl rfl)⟩⟩⟩ fun hS => ?_
  clear hKK KK
  refine rd 7 fun KK hKK => ?_
  have c0 := S.c 2 0 rfl rfl; have f0 := S.f 2 0 rfl; have c1 := S.c 2 1 rfl rfl; have f1 := S.f 2 1 rfl; go_simp; clear hS c0 f0 c1 f1
  have H := S.hset 2 0 (.bool (negB X)) rfl rfl (by intro q n e; cases e)
  replace S := S.set 2 0 (.bool (negB X)) rfl
  refine iv4 H n1 n2 na nb ?_; clear n1 n2 na nb; intro n1 n2 na nb; replace HH := HH.trans H; clear H
  have H := S.hset 2 1 (.slice pa la Ka) rfl rfl (by intro q n e; cases e)
  replace S := S.set 2 1 (.slice pa la Ka) rfl
  refine iv4 H n1 n2 na nb ?_; clear n1 n2 na nb; intro n1 n2 na nb; replace HH := HH.trans H; clear H
  refine ho hKK ⟨(S.c 4 0 rfl rfl), ⟨(S.c 4 1 rfl rfl), ⟨(S.c 5 0 rfl rfl), (S.c 5 1 rfl rfl)⟩⟩⟩ fun hS => ?_
  generalize ((w6.setCell ⟨w.heap.size + 1 + 1, 0, none⟩ (.bool (negB X))).setCell ⟨w.heap.size + 1 + 1, 1, none⟩ (.slice pa la Ka)) = w7 at S n1 n2 na nb HH hS ⊢
  clear hKK KK
  refine rd 8 fun KK hKK => ?_
  have c0 := S.c 3 0 rfl rfl; have f0 := S.f 3 0 rfl; have c1 := S.c 3 1 rfl rfl; have f1 := S.f 3 1 rfl; go_simp; clear hS c0 f0 c1 f1
  have H := S.hset 3 0 (.bool (negB Y)) rfl rfl (by intro q n e; cases e)
  replace S := S.set 3 0 (.bool (negB Y)) rfl
  refine iv4 H n1 n2 na nb ?_; clear n1 n2 na nb; intro n1 n2 na nb; replace HH := HH.trans H; clear H
  have H := S.hset 3 1 (.slice pb lb Kb) rfl rfl (by intro q n e; cases e)
  replace S := S.set 3 1 (.slice pb lb Kb) rfl
  refine iv4 H n1 n2 na nb ?_; clear n1 n2 na nb; intro n1 n2 na nb; replace HH := HH.trans H; clear H
  refine ho hKK ⟨(S.c 4 0 rfl rfl), ⟨(S.c 4 1 rfl rfl), ⟨(S.c 5 0 rfl rfl), (S.c 5 1 rfl rfl)⟩⟩⟩ fun hS => ?_
  generalize ((w7.setCell ⟨w.heap.size + 1 + 1 + 1, 0, none⟩ (.bool (negB Y))).setCell ⟨w.heap.size + 1 + 1 + 1, 1, none⟩ (.slice pb lb Kb)) = w8 at S n1 n2 na nb HH hS ⊢
  clear hKK KK
  refine rd 9 fun KK hKK => ?_
  go_simp
  refine ho hKK hS fun hS => ?_
  clear hKK KK
  refine rd 10 fun KK hKK => ?_
  go_simp
  refine ho hKK hS fun hS => ?_
  clear hKK KK
  refine wpAnyH_done (by kernel_rfl) ?_ _
  clear hS HH; obtain ⟨c0_0, c0_1, c0_2⟩ := S.c3 0 rfl; obtain ⟨c1_0, c1_1, c1_2⟩ := S.c3 1 rfl; have c2_0 := S.c 2 0 rfl rfl; have c2_1 := S.c 2 1 rfl rfl; have c3_0 := S.c 3 0 rfl rfl; have c3_1 := S.c 3 1 rfl rfl; have c4_0 := S.c 4 0 rfl rfl; have c4_1 := S.c 4 1 rfl rfl; have c5_0 := S.c 5 0 rfl rfl; have c5_1 := S.c 5 1 rfl rfl; go_wp2_with fail; have d2_0 := S.c 2 0 rfl rfl; have d2_1 := S.c 2 1 rfl rfl; have d3_0 := S.c 3 0 rfl rfl; have d3_1 := S.c 3 1 rfl rfl
  exact bodyPost_ret (v := .tuple #[.agg #[.bool (negB X), .slice pa la Ka], .agg #[.bool (negB Y), .slice pb lb Kb], .int .i64 e1, .int .i64 0]) (by simp [results, Tryz.f118, go_sem, d2_0, d2_1, d3_0, d3_1]) rfl (⟨⟨_, _, rfl, ⟨pa, la, Ka, rfl, na⟩, ⟨pb, lb, Kb, rfl, nb⟩⟩, S.below⟩)
theorem nbits_pb {n k : Nat} (h0 : n ≠ 0) (h : n < PB k) : nbits n ≤ k := by
  obtain ⟨a1, a2, a3⟩ := nbits_spec h0
  rw [PB_is] at h
  have := (Nat.pow_lt_pow_iff_right (by decide : 1 < 2)).1 (Nat.lt_of_le_of_lt a2 h)
  omega
theorem dalign_any {b1 b2 : Bool} {p1 p2 : Option Addr} {l1 l2 K1 K2 : Nat} {m1 m2 e1 e2 : Int} (h1 : Hid (negB m1 = b1)) (h2 : Hid (negB m2 = b2)) {x y : Rat} {L H : Nat} (d1 : DyF m1 e1 x L H) (d2 : DyF m2 e2 y L H) (hLH : H + L ≤ 16384) :
    ∃ X Y f : Int, (ZF X f L H ∧ ZF Y f L H) ∧ x = dq X f ∧ y = dq Y f ∧
    ∀ w', IsNat w' (.slice p1 l1 K1) m1.natAbs → IsNat w' (.slice p2 l2 K2) m2.natAbs → Calls Tryz.prog 118 #[.agg #[.bool b1, .slice p1 l1 K1, .int .i64 e1], .agg #[.bool b2, .slice p2 l2 K2, .int .i64 e2]] w' fun e w'' => (∃ u v, e = .returned (.tuple #[u, v, .int .i64 f, .int .i64 0]) ∧ IsInt w'' u X ∧ IsInt w'' v Y) ∧ Below w'.heap.size w' w'' := by
  have g1 := d1.exp
  have g2 := d2.exp
  by_cases hlt : e2 < e1
  · obtain ⟨s, hs⟩ : ∃ s : Nat, e1 - e2 = s := ⟨(e1 - e2).toNat, by omega⟩
    have hp : (2 : Int) ^ s = ((2 ^ s : Nat) : Int) := by simp
    have hb : ZF (m1 * 2 ^ s) e2 L H := ⟨g2.1, by
      rw [hp, Int.natAbs_mul, Int.natAbs_natCast, Nat.mul_assoc, ← Nat.pow_add, show s + (e2 + L).toNat = (e1 + L).toNat by omega]
      exact d1.2.1.2⟩
    have hf := hb.max hLH
    rw [hp, Int.natAbs_mul, Int.natAbs_natCast] at hf
    refine ⟨m1 * 2 ^ s, m2, e2, ⟨hb, d2.2.1⟩, ?_, d2.2.2.symm, fun w' a b => dalign_lt h1 a h2 b (d1.max hLH) (d2.max hLH) (by omega) (by omega) hlt s hs hf _ _ rfl rfl⟩
    rw [hp, dq_shift, ← d1.2.2]
    congr 1; omega
  · obtain ⟨s, hs⟩ : ∃ s : Nat, e2 - e1 = s := ⟨(e2 - e1).toNat, by omega⟩
    have hp : (2 : Int) ^ s = ((2 ^ s : Nat) : Int) := by simp
    have hb : ZF (m2 * 2 ^ s) e1 L H := ⟨g1.1, by
      rw [hp, Int.natAbs_mul, Int.natAbs_natCast, Nat.mul_assoc, ← Nat.pow_add, show s + (e1 + L).toNat = (e2 + L).toNat by omega]
      exact d2.2.1.2⟩
    have hf := hb.max hLH
    rw [hp, Int.natAbs_mul, Int.natAbs_natCast] at hf
    refine ⟨m1, m2 * 2 ^ s, e1, ⟨d1.2.1, hb⟩, d1.2.2.symm, ?_, fun w' a b => dalign_ge h1 a h2 b (d1.max hLH) (d2.max hLH) (by omega) (by omega) hlt s hs hf _ _ rfl rfl⟩
    rw [hp, dq_shift, ← d2.2.2]
    congr 1; omega
set_option maxRecDepth 100000 in
set_option maxHeartbeats 8000000 in
theorem dcompare_any {va vb : Value} {x y : Rat} {w : World} {L H : Nat} (ha : IsD w va x L H) (hb : IsD w vb y L H) (hk : H + L ≤ 16384) (c : Int) (hc : cmpR x y = c) :
    Calls Tryz.prog 64 #[va, vb] w fun e w' => e = .returned (.int .i64 c) ∧ Below w.heap.size w w' := by
  obtain ⟨b1, p1, l1, K1, m1, e1, rfl, h1, n1, d1⟩ := ha
  obtain ⟨b2, p2, l2, K2, m2, e2, rfl, h2, n2, d2⟩ := hb
  obtain ⟨s, hs⟩ : ∃ s, x.num.sign = s := ⟨_, rfl⟩
  obtain ⟨t, ht⟩ : ∃ t, y.num.sign = t := ⟨_, rfl⟩
  have HK := Lib.hid hk
  have HS := Lib.hid (And.intro hs ht)
  by_cases hst : s = t
  · subst hst
    by_cases hs0 : s = 0
    · subst hs0
      have hc0 : cmpI 0 0 = c := by
        rw [← hc, Rat.num_eq_zero.1 (Int.sign_eq_zero_iff_zero.1 hs), Rat.num_eq_zero.1 (Int.sign_eq_zero_iff_zero.1 ht), cmpR_eq]; rfl
      have HC := Lib.hid hc0
      clear hc hs ht hc0 hk
      have S := ((St.start w).alloc 27 [.bool b1, .slice p1 l1 K1, .int .i64 e1] (w.heap.size)).alloc 27 [.bool b2, .slice p2 l2 K2, .int .i64 e2] (w.heap.size + 1)
      try simp only [List.cons_append, List.nil_append] at S
      replace n1 := n1.hold S.hold; replace n2 := n2.hold S.hold
      obtain ⟨c0_0, c0_1, c0_2⟩ := S.c3 0 rfl; obtain ⟨c1_0, c1_1, c1_2⟩ := S.c3 1 rfl
      go_enter Tryz.func64, Tryz.ntmps64
      go_upto_region 1 with fail
      clear c0_0 c0_1 c0_2 c1_0 c1_1 c1_2
      replace n1 := n1.hold (Hold.drew _); replace n2 := n2.hold (Hold.drew _)
      replace S := S.drew
      refine wp_region_held_drew (S := fun W => W.cell? ⟨w.heap.size, 0, none⟩ = some (.bool b1) ∧ W.cell? ⟨w.heap.size, 1, none⟩ = some (.slice p1 l1 K1) ∧ W.cell? ⟨w.heap.size, 2, none⟩ = some (.int .i64 e1) ∧ W.cell? ⟨w.heap.size + 1, 0, none⟩ = some (.bool b2) ∧ W.cell? ⟨w.heap.size + 1, 1, none⟩ = some (.slice p2 l2 K2) ∧ W.cell? ⟨w.heap.size + 1, 2, none⟩ = some (.int .i64 e2)) (by kernel_rfl) (con3 (S.c3 0 rfl) (S.c3 1 rfl)) (fun hS => ?_)
      refine tk 0 hS ?_
      refine tk 2 hS ?_
      refine rd 1 fun KK hKK => ?_
      go_simp
      refine (S.call (dsign_any ⟨b1, p1, l1, K1, m1, e1, rfl, h1, n1, d1⟩ HK.out HS.out.1)).mono ?_; clear S; rintro e w1 ⟨rfl, S, H⟩; replace n1 := n1.hold H; replace n2 := n2.hold H; clear H
      go_wp2_with fail
      refine ho hKK (con3 (S.c3 0 rfl) (S.c3 1 rfl)) fun hS => ?_
      clear hKK KK
      refine rd 3 fun KK hKK => ?_
      go_simp
      refine (S.call (dsign_any ⟨b2, p2, l2, K2, m2, e2, rfl, h2, n2, d2⟩ HK.out HS.out.2)).mono ?_; clear S; rintro e w2 ⟨rfl, S, H⟩; replace n1 := n1.hold H; replace n2 := n2.hold H; clear H
      go_wp2_with fail
      refine ho hKK (con3 (S.c3 0 rfl) (S.c3 1 rfl)) fun hS => ?_
      clear hKK KK
      refine rd 4 fun KK hKK => ?_
      go_simp
      refine ho hKK (con3 (S.c3 0 rfl) (S.c3 1 rfl)) fun hS => ?_
      clear hKK KK
      refine rd 5 fun KK hKK => ?_
      go_simp
      refine ho hKK (con3 (S.c3 0 rfl) (S.c3 1 rfl)) fun hS => ?_
      clear hKK KK
      refine wpAnyH_done (by kernel_rfl) ?_ _
      go_wp2_with fail
      refine (S.call (cmp_int' 0 0 c HC.out _)).mono ?_
      clear S
      rintro e w3 ⟨rfl, S, H⟩
      replace n1 := n1.hold H; replace n2 := n2.hold H
      clear H; obtain ⟨c0_0, c0_1, c0_2⟩ := S.c3 0 rfl; obtain ⟨c1_0, c1_1, c1_2⟩ := S.c3 1 rfl; go_wp2_with fail
      exact bodyPost_ret (v := .int .i64 c) (by simp [results, Tryz.f64, go_sem]) rfl (⟨rfl, S.below⟩)
    · have hm1 : m1.sign = s := by rw [← dyc_sign d1.out]; exact hs
      have hm2 : m2.sign = s := by rw [← dyc_sign d2.out]; exact ht
      have h01 : m1 ≠ 0 := fun e => hs0 (by rw [← hm1, e]; rfl)
      have h02 : m2 ≠ 0 := fun e => hs0 (by rw [← hm2, e]; rfl)
      have hs1 : (s == 0) = false := by simpa using hs0
      have hss : (s != s) = false := by simp
      have g1 := d1.out.exp
      have g2 := d2.out.exp
      have hz1 := nbits_pb (n := m1.natAbs) (by omega) d1.out.2.1.size
      have hz2 := nbits_pb (n := m2.natAbs) (by omega) d2.out.2.1.size
      obtain ⟨t1, ht1⟩ : ∃ t, nbits m1.natAbs = t := ⟨_, rfl⟩
      obtain ⟨t2, ht2⟩ : ∃ t, nbits m2.natAbs = t := ⟨_, rfl⟩
      rw [ht1] at hz1
      rw [ht2] at hz2
      obtain ⟨q1, hq1⟩ : ∃ q, (t1 : Int) + e1 = q := ⟨_, rfl⟩
      obtain ⟨q2, hq2⟩ : ∃ q, (t2 : Int) + e2 = q := ⟨_, rfl⟩
      have HQ := Lib.hid (And.intro (And.intro ht1 hq1) (And.intro (And.intro ht2 hq2) (And.intro (show -1000000 ≤ q1 ∧ q1 ≤ 1000000 by omega) (show -1000000 ≤ q2 ∧ q2 ≤ 1000000 by omega))))
      by_cases hq : q1 = q2
      · obtain ⟨X, Y, f, hb, hX, hY, CA⟩ := dalign_any (p1 := p1) (p2 := p2) (l1 := l1) (l2 := l2) (K1 := K1) (K2 := K2) h1 h2 d1.out d2.out hk
        have hc2 : cmpI X Y = c := by rw [← hc, hX, hY, cmpR_dq]
        have hqq : (q1 != q2) = false := by simpa using hq
        have HC := Lib.hid (And.intro hc2 (And.intro (hb.1.max hk) (hb.2.max hk)))
        have HA := Lib.hid CA
        clear hc hs ht hk hm1 hm2 h01 h02 g1 g2 hz1 hz2 ht1 ht2 hq1 hq2 hb hX hY CA hc2 hs0 hq
        have S := ((St.start w).alloc 27 [.bool b1, .slice p1 l1 K1, .int .i64 e1] (w.heap.size)).alloc 27 [.bool b2, .slice p2 l2 K2, .int .i64 e2] (w.heap.size + 1)
        try simp only [List.cons_append, List.nil_append] at S
        replace n1 := n1.hold S.hold; replace n2 := n2.hold S.hold
        obtain ⟨c0_0, c0_1, c0_2⟩ := S.c3 0 rfl; obtain ⟨c1_0, c1_1, c1_2⟩ := S.c3 1 rfl
        go_enter Tryz.func64, Tryz.ntmps64
        go_upto_region 1 with fail
        clear c0_0 c0_1 c0_2 c1_0 c1_1 c1_2
        replace n1 := n1.hold (Hold.drew _); replace n2 := n2.hold (Hold.drew _)
        replace S := S.drew
        refine wp_region_held_drew (S := fun W => W.cell? ⟨w.heap.size, 0, none⟩ = some (.bool b1) ∧ W.cell? ⟨w.heap.size, 1, none⟩ = some (.slice p1 l1 K1) ∧ W.cell? ⟨w.heap.size, 2, none⟩ = some (.int .i64 e1) ∧ W.cell? ⟨w.heap.size + 1, 0, none⟩ = some (.bool b2) ∧ W.cell? ⟨w.heap.size + 1, 1, none⟩ = some (.slice p2 l2 K2) ∧ W.cell? ⟨w.heap.size + 1, 2, none⟩ = some (.int .i64 e2)) (by kernel_rfl) (con3 (S.c3 0 rfl) (S.c3 1 rfl)) (fun hS => ?_)
        refine tk 0 hS ?_
        refine tk 2 hS ?_
        refine rd 1 fun KK hKK => ?_
        go_simp
        refine (S.call (dsign_any ⟨b1, p1, l1, K1, m1, e1, rfl, h1, n1, d1⟩ HK.out HS.out.1)).mono ?_; clear S; rintro e w1 ⟨rfl, S, H⟩; replace n1 := n1.hold H; replace n2 := n2.hold H; clear H
        go_wp2_with fail
        refine ho hKK (con3 (S.c3 0 rfl) (S.c3 1 rfl)) fun hS => ?_
        clear hKK KK
        refine rd 3 fun KK hKK => ?_
        go_simp
        refine (S.call (dsign_any ⟨b2, p2, l2, K2, m2, e2, rfl, h2, n2, d2⟩ HK.out HS.out.2)).mono ?_; clear S; rintro e w2 ⟨rfl, S, H⟩; replace n1 := n1.hold H; replace n2 := n2.hold H; clear H
        go_wp2_with fail
        refine ho hKK (con3 (S.c3 0 rfl) (S.c3 1 rfl)) fun hS => ?_
        clear hKK KK
        refine rd 4 fun KK hKK => ?_
        go_simp
        refine ho hKK (con3 (S.c3 0 rfl) (S.c3 1 rfl)) fun hS => ?_
        clear hKK KK
        refine rd 5 fun KK hKK => ?_
        go_simp
        refine ho hKK (con3 (S.c3 0 rfl) (S.c3 1 rfl)) fun hS => ?_
        clear hKK KK
        refine wpAnyH_done (by kernel_rfl) ?_ _
        go_upto_region 4 with fail
        replace n1 := n1.hold (Hold.drew _); replace n2 := n2.hold (Hold.drew _)
        replace S := S.drew
        refine wp_region_held_drew (S := fun W => W.cell? ⟨w.heap.size, 0, none⟩ = some (.bool b1) ∧ W.cell? ⟨w.heap.size, 1, none⟩ = some (.slice p1 l1 K1) ∧ W.cell? ⟨w.heap.size, 2, none⟩ = some (.int .i64 e1) ∧ W.cell? ⟨w.heap.size + 1, 0, none⟩ = some (.bool b2) ∧ W.cell? ⟨w.heap.size + 1, 1, none⟩ = some (.slice p2 l2 K2) ∧ W.cell? ⟨w.heap.size + 1, 2, none⟩ = some (.int .i64 e2)) (by kernel_rfl) (con3 (S.c3 0 rfl) (S.c3 1 rfl)) (fun hS => ?_)
        refine tk 0 hS ?_
        refine tk 2 hS ?_
        refine rd 1 fun KK hKK => ?_
        go_simp
        refine (S.call (power_any n1 (d1.out.max HK.out) HQ.out.1.1 q1 HQ.out.1.2 HQ.out.2.2.1.1 HQ.out.2.2.1.2)).mono ?_; clear S; rintro e w3 ⟨rfl, S, H⟩; replace n1 := n1.hold H; replace n2 := n2.hold H; clear H
        go_wp2_with fail
        refine ho hKK (con3 (S.c3 0 rfl) (S.c3 1 rfl)) fun hS => ?_
        clear hKK KK
        refine rd 3 fun KK hKK => ?_
        go_simp
        refine (S.call (power_any n2 (d2.out.max HK.out) HQ.out.2.1.1 q2 HQ.out.2.1.2 HQ.out.2.2.2.1 HQ.out.2.2.2.2)).mono ?_; clear S; rintro e w4 ⟨rfl, S, H⟩; replace n1 := n1.hold H; replace n2 := n2.hold H; clear H
        go_wp2_with fail
        refine ho hKK (con3 (S.c3 0 rfl) (S.c3 1 rfl)) fun hS => ?_
        clear hKK KK
        refine rd 4 fun KK hKK => ?_
        go_simp
        refine ho hKK (con3 (S.c3 0 rfl) (S.c3 1 rfl)) fun hS => ?_
        clear hKK KK
        refine rd 5 fun KK hKK => ?_
        go_simp
        refine ho hKK (con3 (S.c3 0 rfl) (S.c3 1 rfl)) fun hS => ?_
        clear hKK KK
        refine wpAnyH_done (by kernel_rfl) ?_ _
        obtain ⟨c0_0, c0_1, c0_2⟩ := S.c3 0 rfl; obtain ⟨c1_0, c1_1, c1_2⟩ := S.c3 1 rfl; go_wp2_with fail; clear c0_0 c0_1 c0_2 c1_0 c1_1 c1_2
        refine (S.call (HA.out _ n1 n2)).mono ?_
        clear S
        rintro e w5 ⟨⟨_, _, rfl, ⟨pa, la, Ka, rfl, na⟩, ⟨pb, lb, Kb, rfl, nb⟩⟩, S, H⟩
        replace n1 := n1.hold H; replace n2 := n2.hold H
        clear H; obtain ⟨c0_0, c0_1, c0_2⟩ := S.c3 0 rfl; obtain ⟨c1_0, c1_1, c1_2⟩ := S.c3 1 rfl
        have H := S.hnew 25 [.bool (negB X), .slice pa la Ka]
        replace S := S.al 25 [.bool (negB X), .slice pa la Ka] (w5.heap.size)
        refine iv4 H n1 n2 na nb ?_; clear n1 n2 na nb; intro n1 n2 na nb
        clear H
        have H := S.hnew 25 [.bool (negB Y), .slice pb lb Kb]
        replace S := S.al 25 [.bool (negB Y), .slice pb lb Kb] (w5.heap.size + 1)
        refine iv4 H n1 n2 na nb ?_; clear n1 n2 na nb; intro n1 n2 na nb
        clear H; clear c0_0 c0_1 c0_2 c1_0 c1_1 c1_2; obtain ⟨c0_0, c0_1, c0_2⟩ := S.c3 0 rfl; obtain ⟨c1_0, c1_1, c1_2⟩ := S.c3 1 rfl; have c2_0 := S.c 2 0 rfl rfl; have c2_1 := S.c 2 1 rfl rfl; have c3_0 := S.c 3 0 rfl rfl; have c3_1 := S.c 3 1 rfl rfl; go_wp2_with fail; clear c0_0 c0_1 c0_2 c1_0 c1_1 c1_2 c2_0 c2_1 c3_0 c3_1
        refine (S.call (wcompare_to ⟨_, _, _, rfl, na⟩ ⟨_, _, _, rfl, nb⟩ HC.out.2.1 HC.out.2.2 c HC.out.1)).mono ?_
        clear S
        rintro e w6 ⟨rfl, S, H⟩
        refine iv4 H n1 n2 na nb ?_; clear n1 n2 na nb; intro n1 n2 na nb
        clear H; obtain ⟨c0_0, c0_1, c0_2⟩ := S.c3 0 rfl; obtain ⟨c1_0, c1_1, c1_2⟩ := S.c3 1 rfl; have c2_0 := S.c 2 0 rfl rfl; have c2_1 := S.c 2 1 rfl rfl; have c3_0 := S.c 3 0 rfl rfl; have c3_1 := S.c 3 1 rfl rfl; go_wp2_with fail
        exact bodyPost_ret (v := .int .i64 c) (by simp [results, Tryz.f64, go_sem]) rfl (⟨rfl, S.below⟩)
      · have hc2 : s * cmpI q1 q2 = c := by
          have := cmp_pow hm1 hm2 hs0 (e1 := e1) (e2 := e2) (by rw [ht1, ht2, hq1, hq2]; exact hq)
          rw [ht1, ht2, hq1, hq2] at this
          rw [← this, ← hc, ← d1.out.2.2, ← d2.out.2.2]
        obtain ⟨r, hr⟩ : ∃ r, cmpI q1 q2 = r := ⟨_, rfl⟩
        have hrb : -1 ≤ s * r ∧ s * r ≤ 1 := by
          rw [← hr, hc2, ← hc]
          unfold cmpR cmpI
          split
          · omega
          · split <;> omega
        have hwr : IntKind.i64.wrap (s * r) = c := by rw [wrap_int (by omega) (by omega), ← hr, hc2]
        have hqq : (q1 != q2) = true := by simpa using hq
        have HC := Lib.hid hr
        clear hc hs ht hk hm1 hm2 h01 h02 g1 g2 hz1 hz2 ht1 ht2 hq1 hq2 hc2 hr hrb hs0 hq
        have S := ((St.start w).alloc 27 [.bool b1, .slice p1 l1 K1, .int .i64 e1] (w.heap.size)).alloc 27 [.bool b2, .slice p2 l2 K2, .int .i64 e2] (w.heap.size + 1)
        try simp only [List.cons_append, List.nil_append] at S
        replace n1 := n1.hold S.hold; replace n2 := n2.hold S.hold
        obtain ⟨c0_0, c0_1, c0_2⟩ := S.c3 0 rfl; obtain ⟨c1_0, c1_1, c1_2⟩ := S.c3 1 rfl
        go_enter Tryz.func64, Tryz.ntmps64
        go_upto_region 1 with fail
        clear c0_0 c0_1 c0_2 c1_0 c1_1 c1_2
        replace n1 := n1.hold (Hold.drew _); replace n2 := n2.hold (Hold.drew _)
        replace S := S.drew
        refine wp_region_held_drew (S := fun W => W.cell? ⟨w.heap.size, 0, none⟩ = some (.bool b1) ∧ W.cell? ⟨w.heap.size, 1, none⟩ = some (.slice p1 l1 K1) ∧ W.cell? ⟨w.heap.size, 2, none⟩ = some (.int .i64 e1) ∧ W.cell? ⟨w.heap.size + 1, 0, none⟩ = some (.bool b2) ∧ W.cell? ⟨w.heap.size + 1, 1, none⟩ = some (.slice p2 l2 K2) ∧ W.cell? ⟨w.heap.size + 1, 2, none⟩ = some (.int .i64 e2)) (by kernel_rfl) (con3 (S.c3 0 rfl) (S.c3 1 rfl)) (fun hS => ?_)
        refine tk 0 hS ?_
        refine tk 2 hS ?_
        refine rd 1 fun KK hKK => ?_
        go_simp
        refine (S.call (dsign_any ⟨b1, p1, l1, K1, m1, e1, rfl, h1, n1, d1⟩ HK.out HS.out.1)).mono ?_; clear S; rintro e w1 ⟨rfl, S, H⟩; replace n1 := n1.hold H; replace n2 := n2.hold H; clear H
        go_wp2_with fail
        refine ho hKK (con3 (S.c3 0 rfl) (S.c3 1 rfl)) fun hS => ?_
        clear hKK KK
        refine rd 3 fun KK hKK => ?_
        go_simp
        refine (S.call (dsign_any ⟨b2, p2, l2, K2, m2, e2, rfl, h2, n2, d2⟩ HK.out HS.out.2)).mono ?_; clear S; rintro e w2 ⟨rfl, S, H⟩; replace n1 := n1.hold H; replace n2 := n2.hold H; clear H
        go_wp2_with fail
        refine ho hKK (con3 (S.c3 0 rfl) (S.c3 1 rfl)) fun hS => ?_
        clear hKK KK
        refine rd 4 fun KK hKK => ?_
        go_simp
        refine ho hKK (con3 (S.c3 0 rfl) (S.c3 1 rfl)) fun hS => ?_
        clear hKK KK
        refine rd 5 fun KK hKK => ?_
        go_simp
        refine ho hKK (con3 (S.c3 0 rfl) (S.c3 1 rfl)) fun hS => ?_
        clear hKK KK
        refine wpAnyH_done (by kernel_rfl) ?_ _
        go_upto_region 4 with fail
        replace n1 := n1.hold (Hold.drew _); replace n2 := n2.hold (Hold.drew _)
        replace S := S.drew
        refine wp_region_held_drew (S := fun W => W.cell? ⟨w.heap.size, 0, none⟩ = some (.bool b1) ∧ W.cell? ⟨w.heap.size, 1, none⟩ = some (.slice p1 l1 K1) ∧ W.cell? ⟨w.heap.size, 2, none⟩ = some (.int .i64 e1) ∧ W.cell? ⟨w.heap.size + 1, 0, none⟩ = some (.bool b2) ∧ W.cell? ⟨w.heap.size + 1, 1, none⟩ = some (.slice p2 l2 K2) ∧ W.cell? ⟨w.heap.size + 1, 2, none⟩ = some (.int .i64 e2)) (by kernel_rfl) (con3 (S.c3 0 rfl) (S.c3 1 rfl)) (fun hS => ?_)
        refine tk 0 hS ?_
        refine tk 2 hS ?_
        refine rd 1 fun KK hKK => ?_
        go_simp
        refine (S.call (power_any n1 (d1.out.max HK.out) HQ.out.1.1 q1 HQ.out.1.2 HQ.out.2.2.1.1 HQ.out.2.2.1.2)).mono ?_; clear S; rintro e w3 ⟨rfl, S, H⟩; replace n1 := n1.hold H; replace n2 := n2.hold H; clear H
        go_wp2_with fail
        refine ho hKK (con3 (S.c3 0 rfl) (S.c3 1 rfl)) fun hS => ?_
        clear hKK KK
        refine rd 3 fun KK hKK => ?_
        go_simp
        refine (S.call (power_any n2 (d2.out.max HK.out) HQ.out.2.1.1 q2 HQ.out.2.1.2 HQ.out.2.2.2.1 HQ.out.2.2.2.2)).mono ?_; clear S; rintro e w4 ⟨rfl, S, H⟩; replace n1 := n1.hold H; replace n2 := n2.hold H; clear H
        go_wp2_with fail
        refine ho hKK (con3 (S.c3 0 rfl) (S.c3 1 rfl)) fun hS => ?_
        clear hKK KK
        refine rd 4 fun KK hKK => ?_
        go_simp
        refine ho hKK (con3 (S.c3 0 rfl) (S.c3 1 rfl)) fun hS => ?_
        clear hKK KK
        refine rd 5 fun KK hKK => ?_
        go_simp
        refine ho hKK (con3 (S.c3 0 rfl) (S.c3 1 rfl)) fun hS => ?_
        clear hKK KK
        refine wpAnyH_done (by kernel_rfl) ?_ _
        go_wp2_with fail
        refine (S.call (cmp_int' q1 q2 r HC.out _)).mono ?_
        clear S
        rintro e w5 ⟨rfl, S, H⟩
        replace n1 := n1.hold H; replace n2 := n2.hold H
        clear H; obtain ⟨c0_0, c0_1, c0_2⟩ := S.c3 0 rfl; obtain ⟨c1_0, c1_1, c1_2⟩ := S.c3 1 rfl; go_wp2_with fail
        exact bodyPost_ret (v := .int .i64 c) (by simp [results, Tryz.f64, go_sem]) rfl (⟨rfl, S.below⟩)
  · have hc2 : cmpI s t = c := by rw [← hc]; exact (cmpR_sgn hs ht hst).symm
    have hss : (s != t) = true := by simpa using hst
    have HC := Lib.hid hc2
    clear hc hs ht hc2 hk hst
    have S := ((St.start w).alloc 27 [.bool b1, .slice p1 l1 K1, .int .i64 e1] (w.heap.size)).alloc 27 [.bool b2, .slice p2 l2 K2, .int .i64 e2] (w.heap.size + 1)
    try simp only [List.cons_append, List.nil_append] at S
    replace n1 := n1.hold S.hold; replace n2 := n2.hold S.hold
    obtain ⟨c0_0, c0_1, c0_2⟩ := S.c3 0 rfl; obtain ⟨c1_0, c1_1, c1_2⟩ := S.c3 1 rfl
    go_enter Tryz.func64, Tryz.ntmps64
    go_upto_region 1 with fail
    clear c0_0 c0_1 c0_2 c1_0 c1_1 c1_2
    replace n1 := n1.hold (Hold.drew _); replace n2 := n2.hold (Hold.drew _)
    replace S := S.drew
    refine wp_region_held_drew (S := fun W => W.cell? ⟨w.heap.size, 0, none⟩ = some (.bool b1) ∧ W.cell? ⟨w.heap.size, 1, none⟩ = some (.slice p1 l1 K1) ∧ W.cell? ⟨w.heap.size, 2, none⟩ = some (.int .i64 e1) ∧ W.cell? ⟨w.heap.size + 1, 0, none⟩ = some (.bool b2) ∧ W.cell? ⟨w.heap.size + 1, 1, none⟩ = some (.slice p2 l2 K2) ∧ W.cell? ⟨w.heap.size + 1, 2, none⟩ = some (.int .i64 e2)) (by kernel_rfl) (con3 (S.c3 0 rfl) (S.c3 1 rfl)) (fun hS => ?_)
    refine tk 0 hS ?_
    refine tk 2 hS ?_
    refine rd 1 fun KK hKK => ?_
    go_simp
    refine (S.call (dsign_any ⟨b1, p1, l1, K1, m1, e1, rfl, h1, n1, d1⟩ HK.out HS.out.1)).mono ?_; clear S; rintro e w1 ⟨rfl, S, H⟩; replace n1 := n1.hold H; replace n2 := n2.hold H; clear H
    go_wp2_with fail
    refine ho hKK (con3 (S.c3 0 rfl) (S.c3 1 rfl)) fun hS => ?_
    clear hKK KK
    refine rd 3 fun KK hKK => ?_
    go_simp
    refine (S.call (dsign_any ⟨b2, p2, l2, K2, m2, e2, rfl, h2, n2, d2⟩ HK.out HS.out.2)).mono ?_; clear S; rintro e w2 ⟨rfl, S, H⟩; replace n1 := n1.hold H; replace n2 := n2.hold H; clear H
    go_wp2_with fail
    refine ho hKK (con3 (S.c3 0 rfl) (S.c3 1 rfl)) fun hS => ?_
    clear hKK KK
    refine rd 4 fun KK hKK => ?_
    go_simp
    refine ho hKK (con3 (S.c3 0 rfl) (S.c3 1 rfl)) fun hS => ?_
    clear hKK KK
    refine rd 5 fun KK hKK => ?_
    go_simp
    refine ho hKK (con3 (S.c3 0 rfl) (S.c3 1 rfl)) fun hS => ?_
    clear hKK KK
    refine wpAnyH_done (by kernel_rfl) ?_ _
    go_wp2_with fail
    refine (S.call (cmp_int' s t c HC.out _)).mono ?_
    clear S
    rintro e w3 ⟨rfl, S, H⟩
    replace n1 := n1.hold H; replace n2 := n2.hold H
    clear H; obtain ⟨c0_0, c0_1, c0_2⟩ := S.c3 0 rfl; obtain ⟨c1_0, c1_1, c1_2⟩ := S.c3 1 rfl; go_wp2_with fail
    exact bodyPost_ret (v := .int .i64 c) (by simp [results, Tryz.f64, go_sem]) rfl (⟨rfl, S.below⟩)
set_option maxRecDepth 100000 in
set_option maxHeartbeats 2000000 in
theorem dless_any {va vb : Value} {x y : Rat} {w : World} {L H : Nat} (ha : IsD w va x L H) (hb : IsD w vb y L H) (hk : H + L ≤ 16384) (r : Bool) (hr : decide (x < y) = r) :
    Calls Tryz.prog 31 #[va, vb] w fun e w' => e = .returned (.bool r) ∧ Below w.heap.size w w' := by
  obtain ⟨c, hc⟩ : ∃ c, cmpR x y = c := ⟨_, rfl⟩
  have hcr : decide (c < 0) = r := by
    rw [← hr, ← hc]
    rcases rat_three x y with h | h | h
    · rw [cmpR_lt h, show decide ((-1 : Int) < 0) = true from rfl]; exact (decide_eq_true h).symm
    · subst h; rw [cmpR_eq, show decide ((0 : Int) < 0) = false from rfl]; exact (decide_eq_false (by grind)).symm
    · rw [cmpR_gt h, show decide ((1 : Int) < 0) = false from rfl]; exact (decide_eq_false (by grind)).symm
  obtain ⟨b1, p1, l1, K1, m1, e1, rfl, h1, n1, d1⟩ := ha
  obtain ⟨b2, p2, l2, K2, m2, e2, rfl, h2, n2, d2⟩ := hb
  have HC := Lib.hid (And.intro hk hc)
  clear hk hc hr
  have S := ((St.start w).alloc 27 [.bool b1, .slice p1 l1 K1, .int .i64 e1] (w.heap.size)).alloc 27 [.bool b2, .slice p2 l2 K2, .int .i64 e2] (w.heap.size + 1)
  try simp only [List.cons_append, List.nil_append] at S
  replace n1 := n1.hold S.hold; replace n2 := n2.hold S.hold
  obtain ⟨c0_0, c0_1, c0_2⟩ := S.c3 0 rfl; obtain ⟨c1_0, c1_1, c1_2⟩ := S.c3 1 rfl
  go_enter Tryz.func31, Tryz.ntmps31
  go_wp2_with fail; clear c0_0 c0_1 c0_2 c1_0 c1_1 c1_2
  refine (S.call (dcompare_any ⟨b1, p1, l1, K1, m1, e1, rfl, h1, n1, d1⟩ ⟨b2, p2, l2, K2, m2, e2, rfl, h2, n2, d2⟩ HC.out.1 c HC.out.2)).mono ?_
  clear S
  rintro e w1 ⟨rfl, S, H⟩
  replace n1 := n1.hold H; replace n2 := n2.hold H
  clear H; obtain ⟨c0_0, c0_1, c0_2⟩ := S.c3 0 rfl; obtain ⟨c1_0, c1_1, c1_2⟩ := S.c3 1 rfl; go_wp2_with fail
  exact bodyPost_ret (v := .bool r) (by simp [results, Tryz.f31, go_sem]) rfl (⟨rfl, S.below⟩)
def max2 (x y : Rat) : Rat := if x < y then y else x
set_option maxRecDepth 100000 in
set_option maxHeartbeats 2000000 in
theorem dmax_any {va vb : Value} {x y : Rat} {w : World} {L H : Nat} (ha : IsD w va x L H) (hb : IsD w vb y L H) (hk : H + L ≤ 16384) :
    Calls Tryz.prog 73 #[va, vb] w fun e w' => (∃ u, e = .returned u ∧ IsD w' u (max2 x y) L H) ∧ Below w.heap.size w w' := by
  obtain ⟨b1, p1, l1, K1, m1, e1, rfl, h1, n1, d1⟩ := ha
  obtain ⟨b2, p2, l2, K2, m2, e2, rfl, h2, n2, d2⟩ := hb
  have HC := Lib.hid hk
  clear hk
  by_cases hlt : x < y
  · have hr := Lib.hid (decide_eq_true hlt)
    have he := Lib.hid (show max2 x y = y from if_pos hlt)
    clear hlt
    have S := (((St.start w).alloc 27 [.bool b1, .slice p1 l1 K1, .int .i64 e1] (w.heap.size)).alloc 27 [.bool b2, .slice p2 l2 K2, .int .i64 e2] (w.heap.size + 1)).alloc 27 [.bool false, .slice none 0 0, .int .i64 0] (w.heap.size + 1 + 1)
    try simp only [List.cons_append, List.nil_append] at S
    replace n1 := n1.hold S.hold; replace n2 := n2.hold S.hold
    obtain ⟨c0_0, c0_1, c0_2⟩ := S.c3 0 rfl; obtain ⟨c1_0, c1_1, c1_2⟩ := S.c3 1 rfl; obtain ⟨c2_0, c2_1, c2_2⟩ := S.c3 2 rfl
    go_enter Tryz.func73, Tryz.ntmps73
    go_wp2_with fail; clear c0_0 c0_1 c0_2 c1_0 c1_1 c1_2 c2_0 c2_1 c2_2
    refine (S.call (dless_any ⟨b1, p1, l1, K1, m1, e1, rfl, h1, n1, d1⟩ ⟨b2, p2, l2, K2, m2, e2, rfl, h2, n2, d2⟩ HC.out true hr.out)).mono ?_
    clear S
    rintro e w1 ⟨rfl, S, H⟩
    replace n1 := n1.hold H; replace n2 := n2.hold H
    clear H; obtain ⟨c0_0, c0_1, c0_2⟩ := S.c3 0 rfl; obtain ⟨c1_0, c1_1, c1_2⟩ := S.c3 1 rfl; obtain ⟨c2_0, c2_1, c2_2⟩ := S.c3 2 rfl; go_wp2_with fail; clear c0_0 c0_1 c0_2 c1_0 c1_1 c1_2 c2_0 c2_1 c2_2
    refine (S.call (dcopied_any ⟨b2, p2, l2, K2, m2, e2, rfl, h2, n2, d2⟩ HC.out)).mono ?_
    clear S
    rintro e w2 ⟨⟨_, rfl, b3, p3, l3, K3, m3, e3, rfl, h3, n3, d3⟩, S, H⟩
    replace n1 := n1.hold H; replace n2 := n2.hold H
    clear H; obtain ⟨c0_0, c0_1, c0_2⟩ := S.c3 0 rfl; obtain ⟨c1_0, c1_1, c1_2⟩ := S.c3 1 rfl; obtain ⟨c2_0, c2_1, c2_2⟩ := S.c3 2 rfl
    obtain ⟨f2_0, f2_1, f2_2⟩ := S.f3 2 rfl
    have HP := S.put3 2 (.bool b3) (.slice p3 l3 K3) (.int .i64 e3) rfl rfl; have H := HP.2; replace S := HP.1; clear HP
    refine iw3 H n1 n2 n3 ?_; clear n1 n2 n3; intro n1 n2 n3
    clear H; go_wp2_with fail; obtain ⟨d2_0, d2_1, d2_2⟩ := S.c3 2 rfl
    exact bodyPost_ret (v := .agg #[.bool b3, .slice p3 l3 K3, .int .i64 e3]) (by simp [results, Tryz.f73, go_sem, d2_0, d2_1, d2_2]) rfl (⟨⟨_, rfl, b3, p3, l3, K3, m3, e3, rfl, h3, n3, by rw [he.out]; exact d3⟩, S.below⟩)
  · have hr := Lib.hid (decide_eq_false hlt)
    have he := Lib.hid (show max2 x y = x from if_neg hlt)
    clear hlt
    have S := (((St.start w).alloc 27 [.bool b1, .slice p1 l1 K1, .int .i64 e1] (w.heap.size)).alloc 27 [.bool b2, .slice p2 l2 K2, .int .i64 e2] (w.heap.size + 1)).alloc 27 [.bool false, .slice none 0 0, .int .i64 0] (w.heap.size + 1 + 1)
    try simp only [List.cons_append, List.nil_append] at S
    replace n1 := n1.hold S.hold; replace n2 := n2.hold S.hold
    obtain ⟨c0_0, c0_1, c0_2⟩ := S.c3 0 rfl; obtain ⟨c1_0, c1_1, c1_2⟩ := S.c3 1 rfl; obtain ⟨c2_0, c2_1, c2_2⟩ := S.c3 2 rfl
    go_enter Tryz.func73, Tryz.ntmps73
    go_wp2_with fail; clear c0_0 c0_1 c0_2 c1_0 c1_1 c1_2 c2_0 c2_1 c2_2
    refine (S.call (dless_any ⟨b1, p1, l1, K1, m1, e1, rfl, h1, n1, d1⟩ ⟨b2, p2, l2, K2, m2, e2, rfl, h2, n2, d2⟩ HC.out false hr.out)).mono ?_
    clear S
    rintro e w1 ⟨rfl, S, H⟩
    replace n1 := n1.hold H; replace n2 := n2.hold H
    clear H; obtain ⟨c0_0, c0_1, c0_2⟩ := S.c3 0 rfl; obtain ⟨c1_0, c1_1, c1_2⟩ := S.c3 1 rfl; obtain ⟨c2_0, c2_1, c2_2⟩ := S.c3 2 rfl; go_wp2_with fail; clear c0_0 c0_1 c0_2 c1_0 c1_1 c1_2 c2_0 c2_1 c2_2
    refine (S.call (dcopied_any ⟨b1, p1, l1, K1, m1, e1, rfl, h1, n1, d1⟩ HC.out)).mono ?_
    clear S
    rintro e w2 ⟨⟨_, rfl, b3, p3, l3, K3, m3, e3, rfl, h3, n3, d3⟩, S, H⟩
    replace n1 := n1.hold H; replace n2 := n2.hold H
    clear H; obtain ⟨c0_0, c0_1, c0_2⟩ := S.c3 0 rfl; obtain ⟨c1_0, c1_1, c1_2⟩ := S.c3 1 rfl; obtain ⟨c2_0, c2_1, c2_2⟩ := S.c3 2 rfl
    obtain ⟨f2_0, f2_1, f2_2⟩ := S.f3 2 rfl
    have HP := S.put3 2 (.bool b3) (.slice p3 l3 K3) (.int .i64 e3) rfl rfl; have H := HP.2; replace S := HP.1; clear HP
    refine iw3 H n1 n2 n3 ?_; clear n1 n2 n3; intro n1 n2 n3
    clear H; go_wp2_with fail; obtain ⟨d2_0, d2_1, d2_2⟩ := S.c3 2 rfl
    exact bodyPost_ret (v := .agg #[.bool b3, .slice p3 l3 K3, .int .i64 e3]) (by simp [results, Tryz.f73, go_sem, d2_0, d2_1, d2_2]) rfl (⟨⟨_, rfl, b3, p3, l3, K3, m3, e3, rfl, h3, n3, by rw [he.out]; exact d3⟩, S.below⟩)
def min2 (x y : Rat) : Rat := if y < x then y else x
set_option maxRecDepth 100000 in
set_option maxHeartbeats 2000000 in
theorem dmin_any {va vb : Value} {x y : Rat} {w : World} {L H : Nat} (ha : IsD w va x L H) (hb : IsD w vb y L H) (hk : H + L ≤ 16384) :
    Calls Tryz.prog 72 #[va, vb] w fun e w' => (∃ u, e = .returned u ∧ IsD w' u (min2 x y) L H) ∧ Below w.heap.size w w' := by
  obtain ⟨b1, p1, l1, K1, m1, e1, rfl, h1, n1, d1⟩ := ha
  obtain ⟨b2, p2, l2, K2, m2, e2, rfl, h2, n2, d2⟩ := hb
  have HC := Lib.hid hk
  clear hk
  by_cases hlt : y < x
  · have hr := Lib.hid (decide_eq_true hlt)
    have he := Lib.hid (show min2 x y = y from if_pos hlt)
    clear hlt
    have S := (((St.start w).alloc 27 [.bool b1, .slice p1 l1 K1, .int .i64 e1] (w.heap.size)).alloc 27 [.bool b2, .slice p2 l2 K2, .int .i64 e2] (w.heap.size + 1)).alloc 27 [.bool false, .slice none 0 0, .int .i64 0] (w.heap.size + 1 + 1)
    try simp only [List.cons_append, List.nil_append] at S
    replace n1 := n1.hold S.hold; replace n2 := n2.hold S.hold
    obtain ⟨c0_0, c0_1, c0_2⟩ := S.c3 0 rfl; obtain ⟨c1_0, c1_1, c1_2⟩ := S.c3 1 rfl; obtain ⟨c2_0, c2_1, c2_2⟩ := S.c3 2 rfl
    go_enter Tryz.func72, Tryz.ntmps72
    go_wp2_with fail; clear c0_0 c0_1 c0_2 c1_0 c1_1 c1_2 c2_0 c2_1 c2_2
    refine (S.call (dless_any ⟨b2, p2, l2, K2, m2, e2, rfl, h2, n2, d2⟩ ⟨b1, p1, l1, K1, m1, e1, rfl, h1, n1, d1⟩ HC.out true hr.out)).mono ?_
    clear S
    rintro e w1 ⟨rfl, S, H⟩
    replace n1 := n1.hold H; replace n2 := n2.hold H
    clear H; obtain ⟨c0_0, c0_1, c0_2⟩ := S.c3 0 rfl; obtain ⟨c1_0, c1_1, c1_2⟩ := S.c3 1 rfl; obtain ⟨c2_0, c2_1, c2_2⟩ := S.c3 2 rfl; go_wp2_with fail; clear c0_0 c0_1 c0_2 c1_0 c1_1 c1_2 c2_0 c2_1 c2_2
    refine (S.call (dcopied_any ⟨b2, p2, l2, K2, m2, e2, rfl, h2, n2, d2⟩ HC.out)).mono ?_
    clear S
    rintro e w2 ⟨⟨_, rfl, b3, p3, l3, K3, m3, e3, rfl, h3, n3, d3⟩, S, H⟩
    replace n1 := n1.hold H; replace n2 := n2.hold H
    clear H; obtain ⟨c0_0, c0_1, c0_2⟩ := S.c3 0 rfl; obtain ⟨c1_0, c1_1, c1_2⟩ := S.c3 1 rfl; obtain ⟨c2_0, c2_1, c2_2⟩ := S.c3 2 rfl
    obtain ⟨f2_0, f2_1, f2_2⟩ := S.f3 2 rfl
    have HP := S.put3 2 (.bool b3) (.slice p3 l3 K3) (.int .i64 e3) rfl rfl; have H := HP.2; replace S := HP.1; clear HP
    refine iw3 H n1 n2 n3 ?_; clear n1 n2 n3; intro n1 n2 n3
    clear H; go_wp2_with fail; obtain ⟨d2_0, d2_1, d2_2⟩ := S.c3 2 rfl
    exact bodyPost_ret (v := .agg #[.bool b3, .slice p3 l3 K3, .int .i64 e3]) (by simp [results, Tryz.f72, go_sem, d2_0, d2_1, d2_2]) rfl (⟨⟨_, rfl, b3, p3, l3, K3, m3, e3, rfl, h3, n3, by rw [he.out]; exact d3⟩, S.below⟩)
  · have hr := Lib.hid (decide_eq_false hlt)
    have he := Lib.hid (show min2 x y = x from if_neg hlt)
    clear hlt
    have S := (((St.start w).alloc 27 [.bool b1, .slice p1 l1 K1, .int .i64 e1] (w.heap.size)).alloc 27 [.bool b2, .slice p2 l2 K2, .int .i64 e2] (w.heap.size + 1)).alloc 27 [.bool false, .slice none 0 0, .int .i64 0] (w.heap.size + 1 + 1)
    try simp only [List.cons_append, List.nil_append] at S
    replace n1 := n1.hold S.hold; replace n2 := n2.hold S.hold
    obtain ⟨c0_0, c0_1, c0_2⟩ := S.c3 0 rfl; obtain ⟨c1_0, c1_1, c1_2⟩ := S.c3 1 rfl; obtain ⟨c2_0, c2_1, c2_2⟩ := S.c3 2 rfl
    go_enter Tryz.func72, Tryz.ntmps72
    go_wp2_with fail; clear c0_0 c0_1 c0_2 c1_0 c1_1 c1_2 c2_0 c2_1 c2_2
    refine (S.call (dless_any ⟨b2, p2, l2, K2, m2, e2, rfl, h2, n2, d2⟩ ⟨b1, p1, l1, K1, m1, e1, rfl, h1, n1, d1⟩ HC.out false hr.out)).mono ?_
    clear S
    rintro e w1 ⟨rfl, S, H⟩
    replace n1 := n1.hold H; replace n2 := n2.hold H
    clear H; obtain ⟨c0_0, c0_1, c0_2⟩ := S.c3 0 rfl; obtain ⟨c1_0, c1_1, c1_2⟩ := S.c3 1 rfl; obtain ⟨c2_0, c2_1, c2_2⟩ := S.c3 2 rfl; go_wp2_with fail; clear c0_0 c0_1 c0_2 c1_0 c1_1 c1_2 c2_0 c2_1 c2_2
    refine (S.call (dcopied_any ⟨b1, p1, l1, K1, m1, e1, rfl, h1, n1, d1⟩ HC.out)).mono ?_
    clear S
    rintro e w2 ⟨⟨_, rfl, b3, p3, l3, K3, m3, e3, rfl, h3, n3, d3⟩, S, H⟩
    replace n1 := n1.hold H; replace n2 := n2.hold H
    clear H; obtain ⟨c0_0, c0_1, c0_2⟩ := S.c3 0 rfl; obtain ⟨c1_0, c1_1, c1_2⟩ := S.c3 1 rfl; obtain ⟨c2_0, c2_1, c2_2⟩ := S.c3 2 rfl
    obtain ⟨f2_0, f2_1, f2_2⟩ := S.f3 2 rfl
    have HP := S.put3 2 (.bool b3) (.slice p3 l3 K3) (.int .i64 e3) rfl rfl; have H := HP.2; replace S := HP.1; clear HP
    refine iw3 H n1 n2 n3 ?_; clear n1 n2 n3; intro n1 n2 n3
    clear H; go_wp2_with fail; obtain ⟨d2_0, d2_1, d2_2⟩ := S.c3 2 rfl
    exact bodyPost_ret (v := .agg #[.bool b3, .slice p3 l3 K3, .int .i64 e3]) (by simp [results, Tryz.f72, go_sem, d2_0, d2_1, d2_2]) rfl (⟨⟨_, rfl, b3, p3, l3, K3, m3, e3, rfl, h3, n3, by rw [he.out]; exact d3⟩, S.below⟩)
theorem ZF.add {x y f : Int} {L H : Nat} (h : ZF x f L H) (g : ZF y f L H) : ZF (x + y) f L (H + 1) := by
  refine ⟨h.1, ?_⟩
  have h1 := h.2
  have h2 := g.2
  rw [show H + 1 + L = 1 + (H + L) by omega, PB_add, PB_is 1]
  have h3 : (x + y).natAbs ≤ x.natAbs + y.natAbs := Int.natAbs_add_le x y
  have h4 := Nat.mul_le_mul_right (2 ^ (f + L).toNat) h3
  rw [Nat.add_mul] at h4
  omega
theorem ZF.mul {x y e f : Int} {L H M I : Nat} (h : ZF x e L H) (g : ZF y f M I) : ZF (x * y) (e + f) (L + M) (H + I) := by
  have h0 := h.1
  have g0 := g.1
  refine ⟨by omega, ?_⟩
  rw [Int.natAbs_mul, show (e + f + ((L + M : Nat) : Int)).toNat = (e + L).toNat + (f + M).toNat by omega, Nat.pow_add, show H + I + (L + M) = (H + L) + (I + M) by omega, PB_add]
  have h1 := h.2
  have h2 := g.2
  generalize 2 ^ (e + (L : Int)).toNat = p at *
  generalize 2 ^ (f + (M : Int)).toNat = q at *
  have : x.natAbs * y.natAbs * (p * q) = (x.natAbs * p) * (y.natAbs * q) := by simp [Nat.mul_assoc, Nat.mul_comm, Nat.mul_left_comm]
  rw [this]
  exact Nat.mul_lt_mul'' h1 h2
set_option maxRecDepth 100000 in
set_option maxHeartbeats 4000000 in
theorem dadd_any {va vb : Value} {x y : Rat} {w : World} {L H : Nat} (hT : Tab w) (ha : IsD w va x L H) (hb : IsD w vb y L H) (hLH : H + 1 + L ≤ 16384) (q : Rat) (hq : x + y = q) :
    Calls Tryz.prog 68 #[va, vb] w fun e w' => (∃ u, e = .returned (.tuple #[u, .int .i64 0]) ∧ IsD w' u q L (H + 1)) ∧ Below w.heap.size w w' := by
  obtain ⟨b1, p1, l1, K1, m1, e1, rfl, h1, n1, d1⟩ := ha
  obtain ⟨b2, p2, l2, K2, m2, e2, rfl, h2, n2, d2⟩ := hb
  obtain ⟨X, Y, f, hb, hX, hY, CA⟩ := dalign_any (p1 := p1) (p2 := p2) (l1 := l1) (l2 := l2) (K1 := K1) (K2 := K2) h1 h2 d1.out d2.out (by omega)
  obtain ⟨Z, hZ⟩ : ∃ Z, X + Y = Z := ⟨_, rfl⟩
  have hZb : ZF Z f L (H + 1) := by rw [← hZ]; exact hb.1.add hb.2
  have hq2 : dq Z f = q := by rw [← hq, hX, hY, dq_add, hZ]
  have HA := Lib.hid CA
  have HD := Lib.hid (And.intro hT (And.intro hZ (And.intro hZb (And.intro hq2 (And.intro hLH (And.intro (hb.1.max (by omega)) (hb.2.max (by omega))))))))
  clear hT hq hb hX hY CA hZ hZb hq2 hLH
  have S := (((St.start w).alloc 27 [.bool b1, .slice p1 l1 K1, .int .i64 e1] (w.heap.size)).alloc 27 [.bool b2, .slice p2 l2 K2, .int .i64 e2] (w.heap.size + 1)).alloc 27 [.bool false, .slice none 0 0, .int .i64 0] (w.heap.size + 1 + 1)
  try simp only [List.cons_append, List.nil_append] at S
  replace n1 := n1.hold S.hold; replace n2 := n2.hold S.hold
  obtain ⟨c0_0, c0_1, c0_2⟩ := S.c3 0 rfl; obtain ⟨c1_0, c1_1, c1_2⟩ := S.c3 1 rfl; obtain ⟨c2_0, c2_1, c2_2⟩ := S.c3 2 rfl
  go_enter Tryz.func68, Tryz.ntmps68
  go_wp2_with fail; clear c0_0 c0_1 c0_2 c1_0 c1_1 c1_2 c2_0 c2_1 c2_2
  refine (S.call (HA.out _ n1 n2)).mono ?_
  clear S
  rintro e w1 ⟨⟨_, _, rfl, ⟨pa, la, Ka, rfl, na⟩, ⟨pb, lb, Kb, rfl, nb⟩⟩, S, H⟩
  replace n1 := n1.hold H; replace n2 := n2.hold H
  clear H; obtain ⟨c0_0, c0_1, c0_2⟩ := S.c3 0 rfl; obtain ⟨c1_0, c1_1, c1_2⟩ := S.c3 1 rfl; obtain ⟨c2_0, c2_1, c2_2⟩ := S.c3 2 rfl
  have H := S.hnew 25 [.bool (negB X), .slice pa la Ka]
  replace S := S.al 25 [.bool (negB X), .slice pa la Ka] (w1.heap.size)
  refine iv4 H n1 n2 na nb ?_; clear n1 n2 na nb; intro n1 n2 na nb
  clear H
  have H := S.hnew 25 [.bool (negB Y), .slice pb lb Kb]
  replace S := S.al 25 [.bool (negB Y), .slice pb lb Kb] (w1.heap.size + 1)
  refine iv4 H n1 n2 na nb ?_; clear n1 n2 na nb; intro n1 n2 na nb
  clear H; clear c0_0 c0_1 c0_2 c1_0 c1_1 c1_2 c2_0 c2_1 c2_2; obtain ⟨c0_0, c0_1, c0_2⟩ := S.c3 0 rfl; obtain ⟨c1_0, c1_1, c1_2⟩ := S.c3 1 rfl; obtain ⟨c2_0, c2_1, c2_2⟩ := S.c3 2 rfl; have c3_0 := S.c 3 0 rfl rfl; have c3_1 := S.c 3 1 rfl rfl; have c4_0 := S.c 4 0 rfl rfl; have c4_1 := S.c 4 1 rfl rfl; go_wp2_with fail; clear c0_0 c0_1 c0_2 c1_0 c1_1 c1_2 c2_0 c2_1 c2_2 c3_0 c3_1 c4_0 c4_1
  refine (S.call (wadd_to ⟨_, _, _, rfl, na⟩ ⟨_, _, _, rfl, nb⟩ HD.out.2.2.2.2.2.1 HD.out.2.2.2.2.2.2 Z HD.out.2.1 (HD.out.2.2.1.max HD.out.2.2.2.2.1))).mono ?_
  clear S
  rintro e w2 ⟨⟨_, rfl, pz, lz, Kz, rfl, nz⟩, S, H⟩
  refine iv4 H n1 n2 na nb ?_; clear n1 n2 na nb; intro n1 n2 na nb
  clear H; obtain ⟨c0_0, c0_1, c0_2⟩ := S.c3 0 rfl; obtain ⟨c1_0, c1_1, c1_2⟩ := S.c3 1 rfl; obtain ⟨c2_0, c2_1, c2_2⟩ := S.c3 2 rfl; have c3_0 := S.c 3 0 rfl rfl; have c3_1 := S.c 3 1 rfl rfl; have c4_0 := S.c 4 0 rfl rfl; have c4_1 := S.c 4 1 rfl rfl
  have H := S.hnew 25 [.bool (negB Z), .slice pz lz Kz]
  replace S := S.al 25 [.bool (negB Z), .slice pz lz Kz] (w2.heap.size)
  refine iv5 H n1 n2 na nb nz ?_; clear n1 n2 na nb nz; intro n1 n2 na nb nz
  clear H; clear c0_0 c0_1 c0_2 c1_0 c1_1 c1_2 c2_0 c2_1 c2_2 c3_0 c3_1 c4_0 c4_1; obtain ⟨c0_0, c0_1, c0_2⟩ := S.c3 0 rfl; obtain ⟨c1_0, c1_1, c1_2⟩ := S.c3 1 rfl; obtain ⟨c2_0, c2_1, c2_2⟩ := S.c3 2 rfl; have c3_0 := S.c 3 0 rfl rfl; have c3_1 := S.c 3 1 rfl rfl; have c4_0 := S.c 4 0 rfl rfl; have c4_1 := S.c 4 1 rfl rfl; have c5_0 := S.c 5 0 rfl rfl; have c5_1 := S.c 5 1 rfl rfl; go_wp2_with fail; clear c0_0 c0_1 c0_2 c1_0 c1_1 c1_2 c2_0 c2_1 c2_2 c3_0 c3_1 c4_0 c4_1 c5_0 c5_1
  refine (S.call (dtimes_any (HD.out.1.below S.below) ⟨_, _, _, rfl, nz⟩ HD.out.2.2.1 HD.out.2.2.2.2.1 q HD.out.2.2.2.1)).mono ?_
  clear S
  rintro e w3 ⟨⟨_, rfl, b3, p3, l3, K3, m3, e3, rfl, h3, n3, d3⟩, S, H⟩
  refine iv5 H n1 n2 na nb nz ?_; clear n1 n2 na nb nz; intro n1 n2 na nb nz
  clear H; obtain ⟨c0_0, c0_1, c0_2⟩ := S.c3 0 rfl; obtain ⟨c1_0, c1_1, c1_2⟩ := S.c3 1 rfl; obtain ⟨c2_0, c2_1, c2_2⟩ := S.c3 2 rfl; have c3_0 := S.c 3 0 rfl rfl; have c3_1 := S.c 3 1 rfl rfl; have c4_0 := S.c 4 0 rfl rfl; have c4_1 := S.c 4 1 rfl rfl; have c5_0 := S.c 5 0 rfl rfl; have c5_1 := S.c 5 1 rfl rfl
  obtain ⟨f2_0, f2_1, f2_2⟩ := S.f3 2 rfl
  have HP := S.put3 2 (.bool b3) (.slice p3 l3 K3) (.int .i64 e3) rfl rfl; have H := HP.2; replace S := HP.1; clear HP
  refine iw6 H n1 n2 na nb nz n3 ?_; clear n1 n2 na nb nz n3; intro n1 n2 na nb nz n3
  clear H; go_wp2_with fail; obtain ⟨d2_0, d2_1, d2_2⟩ := S.c3 2 rfl
  exact bodyPost_ret (v := .tuple #[.agg #[.bool b3, .slice p3 l3 K3, .int .i64 e3], .int .i64 0]) (by simp [results, Tryz.f68, go_sem, d2_0, d2_1, d2_2]) rfl (⟨⟨_, rfl, b3, p3, l3, K3, m3, e3, rfl, h3, n3, d3⟩, S.below⟩)
set_option maxRecDepth 100000 in
set_option maxHeartbeats 4000000 in
theorem dmul_any {va vb : Value} {x y : Rat} {w : World} {L H M I : Nat} (hT : Tab w) (ha : IsD w va x L H) (hb : IsD w vb y M I) (hLH : H + I + (L + M) ≤ 16384) (q : Rat) (hq : x * y = q) :
    Calls Tryz.prog 71 #[va, vb] w fun e w' => (∃ u, e = .returned (.tuple #[u, .int .i64 0]) ∧ IsD w' u q (L + M) (H + I)) ∧ Below w.heap.size w w' := by
  obtain ⟨b1, p1, l1, K1, m1, e1, rfl, h1, n1, d1⟩ := ha
  obtain ⟨b2, p2, l2, K2, m2, e2, rfl, h2, n2, d2⟩ := hb
  have g1 := d1.out.exp
  have g2 := d2.out.exp
  obtain ⟨Z, hZ⟩ : ∃ Z, m1 * m2 = Z := ⟨_, rfl⟩
  obtain ⟨f, hf⟩ : ∃ f, e1 + e2 = f := ⟨_, rfl⟩
  have hZb : ZF Z f (L + M) (H + I) := by rw [← hZ, ← hf]; exact d1.out.2.1.mul d2.out.2.1
  have hwr : IntKind.i64.wrap (e1 + e2) = f := by rw [wrap_int (by omega) (by omega), hf]
  have hq2 : dq Z f = q := by rw [← hq, ← d1.out.2.2, ← d2.out.2.2, dq_mul, hZ, hf]
  have HD := Lib.hid (And.intro hT (And.intro hZ (And.intro hZb (And.intro hq2 (And.intro hLH (And.intro (d1.out.max (by omega)) (d2.out.max (by omega))))))))
  clear hT hq g1 g2 hZ hZb hf hq2 hLH
  have S := (((St.start w).alloc 27 [.bool b1, .slice p1 l1 K1, .int .i64 e1] (w.heap.size)).alloc 27 [.bool b2, .slice p2 l2 K2, .int .i64 e2] (w.heap.size + 1)).alloc 27 [.bool false, .slice none 0 0, .int .i64 0] (w.heap.size + 1 + 1)
  try simp only [List.cons_append, List.nil_append] at S
  replace n1 := n1.hold S.hold; replace n2 := n2.hold S.hold
  obtain ⟨c0_0, c0_1, c0_2⟩ := S.c3 0 rfl; obtain ⟨c1_0, c1_1, c1_2⟩ := S.c3 1 rfl; obtain ⟨c2_0, c2_1, c2_2⟩ := S.c3 2 rfl
  go_enter Tryz.func71, Tryz.ntmps71
  go_wp2_with fail; clear c0_0 c0_1 c0_2 c1_0 c1_1 c1_2 c2_0 c2_1 c2_2
  refine (S.call (wmul_to ⟨_, _, _, by rw [h1.out], n1⟩ ⟨_, _, _, by rw [h2.out], n2⟩ HD.out.2.2.2.2.2.1 HD.out.2.2.2.2.2.2 Z HD.out.2.1 (HD.out.2.2.1.max HD.out.2.2.2.2.1))).mono ?_
  clear S
  rintro e w1 ⟨⟨_, rfl, pz, lz, Kz, rfl, nz⟩, S, H⟩
  replace n1 := n1.hold H; replace n2 := n2.hold H
  clear H; obtain ⟨c0_0, c0_1, c0_2⟩ := S.c3 0 rfl; obtain ⟨c1_0, c1_1, c1_2⟩ := S.c3 1 rfl; obtain ⟨c2_0, c2_1, c2_2⟩ := S.c3 2 rfl
  have H := S.hnew 25 [.bool (negB Z), .slice pz lz Kz]
  replace S := S.al 25 [.bool (negB Z), .slice pz lz Kz] (w1.heap.size)
  refine iv3 H n1 n2 nz ?_; clear n1 n2 nz; intro n1 n2 nz
  clear H; clear c0_0 c0_1 c0_2 c1_0 c1_1 c1_2 c2_0 c2_1 c2_2; obtain ⟨c0_0, c0_1, c0_2⟩ := S.c3 0 rfl; obtain ⟨c1_0, c1_1, c1_2⟩ := S.c3 1 rfl; obtain ⟨c2_0, c2_1, c2_2⟩ := S.c3 2 rfl; have c3_0 := S.c 3 0 rfl rfl; have c3_1 := S.c 3 1 rfl rfl; go_wp2_with fail; clear c0_0 c0_1 c0_2 c1_0 c1_1 c1_2 c2_0 c2_1 c2_2 c3_0 c3_1
  refine (S.call (dtimes_any (HD.out.1.below S.below) ⟨_, _, _, rfl, nz⟩ HD.out.2.2.1 HD.out.2.2.2.2.1 q HD.out.2.2.2.1)).mono ?_
  clear S
  rintro e w2 ⟨⟨_, rfl, b3, p3, l3, K3, m3, e3, rfl, h3, n3, d3⟩, S, H⟩
  refine iv3 H n1 n2 nz ?_; clear n1 n2 nz; intro n1 n2 nz
  clear H; obtain ⟨c0_0, c0_1, c0_2⟩ := S.c3 0 rfl; obtain ⟨c1_0, c1_1, c1_2⟩ := S.c3 1 rfl; obtain ⟨c2_0, c2_1, c2_2⟩ := S.c3 2 rfl; have c3_0 := S.c 3 0 rfl rfl; have c3_1 := S.c 3 1 rfl rfl
  obtain ⟨f2_0, f2_1, f2_2⟩ := S.f3 2 rfl
  have HP := S.put3 2 (.bool b3) (.slice p3 l3 K3) (.int .i64 e3) rfl rfl; have H := HP.2; replace S := HP.1; clear HP
  refine iw4 H n1 n2 nz n3 ?_; clear n1 n2 nz n3; intro n1 n2 nz n3
  clear H; go_wp2_with fail; obtain ⟨d2_0, d2_1, d2_2⟩ := S.c3 2 rfl
  exact bodyPost_ret (v := .tuple #[.agg #[.bool b3, .slice p3 l3 K3, .int .i64 e3], .int .i64 0]) (by simp [results, Tryz.f71, go_sem, d2_0, d2_1, d2_2]) rfl (⟨⟨_, rfl, b3, p3, l3, K3, m3, e3, rfl, h3, n3, d3⟩, S.below⟩)
def rndI (m : Int) (v : Nat) (up : Bool) : Int := m / 2 ^ v + (if up = true then 1 else 0)
def rnd (m e : Int) (n : Nat) (up : Bool) : Rat := if nbits m.natAbs ≤ n then dq m e else dq (rndI m (nbits m.natAbs - n) up) (e + ((nbits m.natAbs - n : Nat) : Int))
theorem rndI_le (m : Int) (v : Nat) (up : Bool) : (rndI m v up).natAbs * 2 ^ v ≤ m.natAbs + 2 ^ v := by
  obtain ⟨d, hd⟩ : ∃ d : Nat, 2 ^ v = d := ⟨_, rfl⟩
  have hd0 : 0 < d := by rw [← hd]; exact Nat.two_pow_pos v
  have hdI : (2 : Int) ^ v = (d : Int) := by rw [← hd]; simp
  unfold rndI
  rw [hd, hdI]
  have h1 := Int.emod_add_mul_ediv m (d : Int)
  have h2 := Int.emod_nonneg m (show (d : Int) ≠ 0 by omega)
  have h3 := Int.emod_lt_of_pos m (show (0 : Int) < (d : Int) by omega)
  generalize m / (d : Int) = q at *
  generalize m % (d : Int) = r at *
  obtain ⟨u, hu⟩ : ∃ u : Int, (if up = true then 1 else 0) = u := ⟨_, rfl⟩
  rw [hu]
  have hu2 : u = 0 ∨ u = 1 := by rw [← hu]; split <;> simp
  have h4 : (q + u).natAbs * d = ((q + u) * (d : Int)).natAbs := by rw [Int.natAbs_mul, Int.natAbs_natCast]
  have h5 : (q + u) * (d : Int) = (d : Int) * q + u * d := by rw [Int.add_mul, Int.mul_comm q]
  rw [h4, h5]
  rcases hu2 with rfl | rfl <;> omega
theorem rnd_zf {m e : Int} {L H v : Nat} (up : Bool) (h : ZF m e L H) (hv : 2 ^ v ≤ m.natAbs) : ZF (rndI m v up) (e + v) L (H + 1) := by
  have h0 := h.1
  refine ⟨by omega, ?_⟩
  have h1 := rndI_le m v up
  rw [show (e + (v : Int) + L).toNat = v + (e + L).toNat by omega, Nat.pow_add, ← Nat.mul_assoc, show H + 1 + L = 1 + (H + L) by omega, PB_add, PB_is 1]
  have h2 := h.2
  have h3 : (rndI m v up).natAbs * 2 ^ v ≤ 2 * m.natAbs := by omega
  generalize 2 ^ (e + (L : Int)).toNat = s at *
  have h4 := Nat.mul_le_mul_right s h3
  have h5 : 2 * m.natAbs * s = 2 * (m.natAbs * s) := Nat.mul_assoc ..
  omega
set_option maxRecDepth 100000 in
set_option maxHeartbeats 8000000 in
theorem dround_any {b : Bool} {p : Option Addr} {l K : Nat} {m e : Int} {x : Rat} {L H : Nat} {w : World} (hT : Tab w) (hb : Hid (negB m = b)) (nm : IsNat w (.slice p l K) m.natAbs) (hd : Hid (DyF m e x L H)) (hLH : H + 1 + L ≤ 16384) (n : Nat) (h2 : 2 ≤ n) (h4 : n ≤ 4096) (up : Bool) (y : Rat) (hy : rnd m e n up = y) :
    Calls Tryz.prog 74 #[.agg #[.bool b, .slice p l K, .int .i64 e], .int .i64 n, .bool up] w fun ev w' => (∃ u, ev = .returned (.tuple #[u, .int .i64 0]) ∧ IsD w' u y L (H + 1)) ∧ Below w.heap.size w w' := by
  obtain ⟨t, ht⟩ : ∃ t, nbits m.natAbs = t := ⟨_, rfl⟩
  have hmax := hd.out.max (by omega)
  have HX := Lib.hid (show -65536 ≤ e ∧ e ≤ 65536 by have := hd.out.exp; omega)
  have HN := Lib.hid (And.intro (show (2 : Int) ≤ (n : Int) by omega) (show (n : Int) ≤ 4096 by omega))
  have HD := Lib.hid (And.intro hT (And.intro ht (And.intro hmax hLH)))
  by_cases htn : t ≤ n
  · have hy0 : x = y := by rw [← hy, ← hd.out.2.2]; unfold rnd; rw [if_pos (by rw [ht]; exact htn)]
    obtain ⟨o, ho⟩ : ∃ o : Int, (t : Int) - (n : Int) = o := ⟨_, rfl⟩
    have htl : t ≤ 16384 := by
      rcases Nat.eq_zero_or_pos m.natAbs with h | h
      · rw [← ht, h]; decide
      · have := nbits_pb (n := m.natAbs) (by omega) hd.out.2.1.size; omega
    have hwr : IntKind.i64.wrap ((t : Int) - (n : Int)) = o := by rw [wrap_int (by omega) (by omega), ho]
    have ho0 : o ≤ 0 := by omega
    have HY := Lib.hid hy0
    clear hT hy ht hmax htn ho htl h2 h4 hLH hy0
    have S := ((St.start w).alloc 27 [.bool b, .slice p l K, .int .i64 e] (w.heap.size)).alloc 27 [.bool false, .slice none 0 0, .int .i64 0] (w.heap.size + 1)
    try simp only [List.cons_append, List.nil_append] at S
    replace nm := nm.hold S.hold
    obtain ⟨c0_0, c0_1, c0_2⟩ := S.c3 0 rfl; obtain ⟨c1_0, c1_1, c1_2⟩ := S.c3 1 rfl
    go_enter Tryz.func74, Tryz.ntmps74
    go_wp2_with fail; clear c0_0 c0_1 c0_2 c1_0 c1_1 c1_2
    refine (S.call (bits_in n _ HN.out.1 HN.out.2)).mono ?_
    clear S
    rintro e w1 ⟨rfl, S, H⟩
    replace nm := nm.hold H; clear H; obtain ⟨c0_0, c0_1, c0_2⟩ := S.c3 0 rfl; obtain ⟨c1_0, c1_1, c1_2⟩ := S.c3 1 rfl; go_wp2_with fail; clear c0_0 c0_1 c0_2 c1_0 c1_1 c1_2
    refine (S.call (bits_nat nm HD.out.2.2.1 HD.out.2.1)).mono ?_
    clear S
    rintro e w2 ⟨rfl, S, H⟩
    replace nm := nm.hold H; clear H; obtain ⟨c0_0, c0_1, c0_2⟩ := S.c3 0 rfl; obtain ⟨c1_0, c1_1, c1_2⟩ := S.c3 1 rfl; go_wp2_with fail; clear c0_0 c0_1 c0_2 c1_0 c1_1 c1_2
    refine (S.call (dcopied_any ⟨b, p, l, K, m, e, rfl, hb, nm, hd⟩ (by have := HD.out.2.2.2; omega))).mono ?_
    clear S
    rintro e w3 ⟨⟨_, rfl, b3, p3, l3, K3, m3, e3, rfl, h3, n3, d3⟩, S, H⟩
    replace nm := nm.hold H; clear H; obtain ⟨c0_0, c0_1, c0_2⟩ := S.c3 0 rfl; obtain ⟨c1_0, c1_1, c1_2⟩ := S.c3 1 rfl
    obtain ⟨f1_0, f1_1, f1_2⟩ := S.f3 1 rfl
    have HP := S.put3 1 (.bool b3) (.slice p3 l3 K3) (.int .i64 e3) rfl rfl; have H := HP.2; replace S := HP.1; clear HP
    replace nm := nm.hold32 H; replace n3 := n3.hold32 H
    clear H; go_wp2_with fail; obtain ⟨d1_0, d1_1, d1_2⟩ := S.c3 1 rfl
    exact bodyPost_ret (v := .tuple #[.agg #[.bool b3, .slice p3 l3 K3, .int .i64 e3], .int .i64 0]) (by simp [results, Tryz.f74, go_sem, d1_0, d1_1, d1_2]) rfl (⟨⟨_, rfl, b3, p3, l3, K3, m3, e3, rfl, h3, n3, by rw [← HY.out]; exact d3.out.mono (Nat.le_refl _) (by omega)⟩, S.below⟩)
  · obtain ⟨v, hv⟩ : ∃ v : Nat, t - n = v := ⟨_, rfl⟩
    have hm0 : m.natAbs ≠ 0 := fun e0 => htn (by rw [← ht, e0]; simp [nbits])
    have htl : t ≤ 16384 := by have := nbits_pb (n := m.natAbs) hm0 hd.out.2.1.size; omega
    have hwr : IntKind.i64.wrap ((t : Int) - (n : Int)) = (v : Int) := by rw [wrap_int (by omega) (by omega)]; omega
    have hv0 : ¬ (v : Int) ≤ 0 := by omega
    obtain ⟨f, hf⟩ : ∃ f, e + (v : Int) = f := ⟨_, rfl⟩
    have hex := hd.out.exp
    have hwe : IntKind.i64.wrap (e + (v : Int)) = f := by rw [wrap_int (by omega) (by omega), hf]
    have h2v : 2 ^ v ≤ m.natAbs := by
      obtain ⟨a1, a2, _⟩ := nbits_spec hm0
      rw [ht] at a2
      exact Nat.le_trans (Nat.pow_le_pow_right (by decide) (by omega)) a2
    have hzf := rnd_zf up hd.out.2.1 h2v
    obtain ⟨z, hz⟩ : ∃ z, m / 2 ^ v = z := ⟨_, rfl⟩
    obtain ⟨z1, hz1⟩ : ∃ z1, rndI m v up = z1 := ⟨_, rfl⟩
    rw [hz1, hf] at hzf
    have hzf0 := rnd_zf false hd.out.2.1 h2v
    have hz0 : rndI m v false = z := by unfold rndI; rw [if_neg (by decide), Int.add_zero]; exact hz
    rw [hz0, hf] at hzf0
    have hy2 : dq z1 f = y := by rw [← hy]; unfold rnd; rw [if_neg (by rw [ht]; exact htn), ht, hv, hz1, hf]
    have HZ := Lib.hid (And.intro hz (And.intro hzf (And.intro hy2 (And.intro (show v ≤ 9223372036854775807 by omega) (And.intro (hzf0.max hLH) (hzf.max hLH))))))
    clear hT hy ht hmax htn hv hm0 htl hf hex h2v hz hzf hzf0 hz0 hy2 h2 h4 hLH
    cases up with
    | true =>
      have HU := Lib.hid (show z + 1 = z1 by rw [← hz1, ← HZ.out.1]; unfold rndI; rw [if_pos rfl])
      clear hz1
      have S := ((St.start w).alloc 27 [.bool b, .slice p l K, .int .i64 e] (w.heap.size)).alloc 27 [.bool false, .slice none 0 0, .int .i64 0] (w.heap.size + 1)
      try simp only [List.cons_append, List.nil_append] at S
      replace nm := nm.hold S.hold
      obtain ⟨c0_0, c0_1, c0_2⟩ := S.c3 0 rfl; obtain ⟨c1_0, c1_1, c1_2⟩ := S.c3 1 rfl
      go_enter Tryz.func74, Tryz.ntmps74
      go_wp2_with fail; clear c0_0 c0_1 c0_2 c1_0 c1_1 c1_2
      refine (S.call (bits_in n _ HN.out.1 HN.out.2)).mono ?_
      clear S
      rintro e w1 ⟨rfl, S, H⟩
      replace nm := nm.hold H; clear H; obtain ⟨c0_0, c0_1, c0_2⟩ := S.c3 0 rfl; obtain ⟨c1_0, c1_1, c1_2⟩ := S.c3 1 rfl; go_wp2_with fail; clear c0_0 c0_1 c0_2 c1_0 c1_1 c1_2
      refine (S.call (bits_nat nm HD.out.2.2.1 HD.out.2.1)).mono ?_
      clear S
      rintro e w2 ⟨rfl, S, H⟩
      replace nm := nm.hold H; clear H; obtain ⟨c0_0, c0_1, c0_2⟩ := S.c3 0 rfl; obtain ⟨c1_0, c1_1, c1_2⟩ := S.c3 1 rfl; clear c0_0 c0_1 c0_2 c1_0 c1_1 c1_2; obtain ⟨c0_0, c0_1, c0_2⟩ := S.c3 0 rfl; obtain ⟨c1_0, c1_1, c1_2⟩ := S.c3 1 rfl; go_wp2_with fail; clear c0_0 c0_1 c0_2 c1_0 c1_1 c1_2
      refine (S.call (wright_any (HD.out.1.below S.below) ⟨_, _, _, by rw [hb.out], nm⟩ HD.out.2.2.1 v HZ.out.2.2.2.1 z HZ.out.1)).mono ?_
      clear S
      rintro e w3 ⟨⟨_, rfl, pz, lz, Kz, rfl, nz⟩, S, H⟩
      replace nm := nm.hold H; clear H; obtain ⟨c0_0, c0_1, c0_2⟩ := S.c3 0 rfl; obtain ⟨c1_0, c1_1, c1_2⟩ := S.c3 1 rfl
      have H := S.hnew 25 [.bool (negB z), .slice pz lz Kz]
      replace S := S.al 25 [.bool (negB z), .slice pz lz Kz] (w3.heap.size)
      replace nm := nm.hold H; replace nz := nz.hold H
      clear H; clear c0_0 c0_1 c0_2 c1_0 c1_1 c1_2; obtain ⟨c0_0, c0_1, c0_2⟩ := S.c3 0 rfl; obtain ⟨c1_0, c1_1, c1_2⟩ := S.c3 1 rfl; have c2_0 := S.c 2 0 rfl rfl; have c2_1 := S.c 2 1 rfl rfl
      go_upto_region 8 with fail
      clear c0_0 c0_1 c0_2 c1_0 c1_1 c1_2 c2_0 c2_1
      generalize (w3.alloc (.cells #[.bool (negB z), .slice pz lz Kz] 25)) = w4 at S nm nz ⊢
      go_cut [10] (fun s10 wx => ∃ py ly Ky, s10 = .int .i64 0 ∧ St w wx [(w.heap.size, 27, [.bool b, .slice p l K, .int .i64 e]), (w.heap.size + 1, 27, [.bool false, .slice none 0 0, .int .i64 0]), (w3.heap.size, 25, [.bool (negB z1), .slice py ly Ky])] ∧ IsNat wx (.slice py ly Ky) z1.natAbs ∧ Hold w4 wx)
      case first =>
        have HH := Hold.drew w4
        replace nm := nm.hold HH; replace nz := nz.hold HH
        replace S := S.drew
        refine wp_region_held_drew (S := fun W => True) (by kernel_rfl) trivial (fun hS => ?_)
        generalize w4.drew = w5 at S nm nz HH hS ⊢
        refine wpAnyH_ready (rs := [0, 1]) (by kernel_rfl) (by simp) (AllReadyH.cons (opOf rfl) (fun KK hKK => ?_) (AllReadyH.cons (opOf rfl) (fun KK hKK => ?_) AllReadyH.nil))
        ·
          have c2_0 := S.c 2 0 rfl rfl; have c2_1 := S.c 2 1 rfl rfl; go_simp; clear c2_0 c2_1
          refine ho hKK hS fun hS => ?_
          clear hKK KK
          refine rd 1 fun KK hKK => ?_
          go_simp; clear hS
          refine (S.call (wof_any 1 _ (by decide) (by decide))).mono ?_
          clear S
          rintro e w6 ⟨⟨_, rfl, po, lo, Ko, rfl, no⟩, S, H⟩
          replace nm := nm.hold H; replace nz := nz.hold H; replace HH := HH.trans H; clear H
          go_wp2_with fail
          refine ho hKK trivial fun hS => ?_
          clear hKK KK
          refine rd 2 fun KK hKK => ?_
          go_simp; clear hS
          refine (S.call (wadd_to ⟨_, _, _, rfl, nz⟩ ⟨_, _, _, rfl, no⟩ HZ.out.2.2.2.2.1 (lt_maxN (by decide)) z1 HU.out HZ.out.2.2.2.2.2)).mono ?_
          clear S
          rintro e w7 ⟨⟨_, rfl, py, ly, Ky, rfl, ny⟩, S, H⟩
          refine iv3 H nm nz no ?_; clear nm nz no; intro nm nz no; replace HH := HH.trans H; clear H
          go_wp2_with fail
          refine ho hKK trivial fun hS => ?_
          clear hKK KK
          refine tk 3 hS ?_
          refine tk 4 hS ?_
          refine tk 5 hS ?_
          refine rd 6 fun KK hKK => ?_
          have c0 := S.c 2 0 rfl rfl; have f0 := S.f 2 0 rfl; have c1 := S.c 2 1 rfl rfl; have f1 := S.f 2 1 rfl; go_simp; clear hS c0 f0 c1 f1
          have H := S.hset 2 0 (.bool (negB z1)) rfl rfl (by intro q n e; cases e)
          replace S := S.set 2 0 (.bool (negB z1)) rfl
          refine iv4 H nm nz no ny ?_; clear nm nz no ny; intro nm nz no ny; replace HH := HH.trans H; clear H
          have H := S.hset 2 1 (.slice py ly Ky) rfl rfl (by intro q n e; cases e)
          replace S := S.set 2 1 (.slice py ly Ky) rfl
          refine iv4 H nm nz no ny ?_; clear nm nz no ny; intro nm nz no ny; replace HH := HH.trans H; clear H
          refine ho hKK trivial fun hS => ?_
          generalize ((w7.setCell ⟨w3.heap.size, 0, none⟩ (.bool (negB z1))).setCell ⟨w3.heap.size, 1, none⟩ (.slice py ly Ky)) = w8 at S nm nz no ny HH hS ⊢
          clear hKK KK
          refine rd 7 fun KK hKK => ?_
          go_simp
          refine ho hKK hS fun hS => ?_
          clear hKK KK
          refine wpAnyH_done (by kernel_rfl) ?_ _
          go_wp2_with fail
          go_meet
          case rel => exact ⟨py, ly, Ky, rfl, S, ny, HH⟩
        ·
          go_simp; clear hS
          refine (S.call (wof_any 1 _ (by decide) (by decide))).mono ?_
          clear S
          rintro e w9 ⟨⟨_, rfl, po, lo, Ko, rfl, no⟩, S, H⟩
          replace nm := nm.hold H; replace nz := nz.hold H; replace HH := HH.trans H; clear H
          go_wp2_with fail
          refine ho hKK trivial fun hS => ?_
          clear hKK KK
          refine rd 0 fun KK hKK => ?_
          have c2_0 := S.c 2 0 rfl rfl; have c2_1 := S.c 2 1 rfl rfl; go_simp; clear c2_0 c2_1
          refine ho hKK hS fun hS => ?_
          clear hKK KK
          refine rd 2 fun KK hKK => ?_
          go_simp; clear hS
          refine (S.call (wadd_to ⟨_, _, _, rfl, nz⟩ ⟨_, _, _, rfl, no⟩ HZ.out.2.2.2.2.1 (lt_maxN (by decide)) z1 HU.out HZ.out.2.2.2.2.2)).mono ?_
          clear S
          rintro e w10 ⟨⟨_, rfl, py, ly, Ky, rfl, ny⟩, S, H⟩
          refine iv3 H nm nz no ?_; clear nm nz no; intro nm nz no; replace HH := HH.trans H; clear H
          go_wp2_with fail
          refine ho hKK trivial fun hS => ?_
          clear hKK KK
          refine tk 3 hS ?_
          refine tk 4 hS ?_
          refine tk 5 hS ?_
          refine rd 6 fun KK hKK => ?_
          have c0 := S.c 2 0 rfl rfl; have f0 := S.f 2 0 rfl; have c1 := S.c 2 1 rfl rfl; have f1 := S.f 2 1 rfl; go_simp; clear hS c0 f0 c1 f1
          have H := S.hset 2 0 (.bool (negB z1)) rfl rfl (by intro q n e; cases e)
          replace S := S.set 2 0 (.bool (negB z1)) rfl
          refine iv4 H nm nz no ny ?_; clear nm nz no ny; intro nm nz no ny; replace HH := HH.trans H; clear H
          have H := S.hset 2 1 (.slice py ly Ky) rfl rfl (by intro q n e; cases e)
          replace S := S.set 2 1 (.slice py ly Ky) rfl
          refine iv4 H nm nz no ny ?_; clear nm nz no ny; intro nm nz no ny; replace HH := HH.trans H; clear H
          refine ho hKK trivial fun hS => ?_
          generalize ((w10.setCell ⟨w3.heap.size, 0, none⟩ (.bool (negB z1))).setCell ⟨w3.heap.size, 1, none⟩ (.slice py ly Ky)) = w11 at S nm nz no ny HH hS ⊢
          clear hKK KK
          refine rd 7 fun KK hKK => ?_
          go_simp
          refine ho hKK hS fun hS => ?_
          clear hKK KK
          refine wpAnyH_done (by kernel_rfl) ?_ _
          go_wp2_with fail
          go_meet
          case rel => exact ⟨py, ly, Ky, rfl, S, ny, HH⟩
      case rest =>
        obtain ⟨py, ly, Ky, rfl, S, ny, HH⟩ := hcut
        obtain ⟨w12, rfl⟩ : ∃ W : World, W = wc := ⟨_, rfl⟩
        replace nm := nm.hold HH; replace nz := nz.hold HH; clear HH; obtain ⟨c0_0, c0_1, c0_2⟩ := S.c3 0 rfl; obtain ⟨c1_0, c1_1, c1_2⟩ := S.c3 1 rfl; have c2_0 := S.c 2 0 rfl rfl; have c2_1 := S.c 2 1 rfl rfl; go_wp2_with fail; clear c0_0 c0_1 c0_2 c1_0 c1_1 c1_2 c2_0 c2_1
        refine (S.call (dtimes_any (HD.out.1.below S.below) ⟨_, _, _, rfl, ny⟩ HZ.out.2.1 HD.out.2.2.2 y HZ.out.2.2.1)).mono ?_
        clear S
        rintro e w13 ⟨⟨_, rfl, b3, p3, l3, K3, m3, e3, rfl, h3, n3, d3⟩, S, H⟩
        refine iv3 H nm nz ny ?_; clear nm nz ny; intro nm nz ny
        clear H; obtain ⟨c0_0, c0_1, c0_2⟩ := S.c3 0 rfl; obtain ⟨c1_0, c1_1, c1_2⟩ := S.c3 1 rfl; have c2_0 := S.c 2 0 rfl rfl; have c2_1 := S.c 2 1 rfl rfl
        obtain ⟨f1_0, f1_1, f1_2⟩ := S.f3 1 rfl
        have HP := S.put3 1 (.bool b3) (.slice p3 l3 K3) (.int .i64 e3) rfl rfl; have H := HP.2; replace S := HP.1; clear HP
        refine iw4 H nm nz ny n3 ?_; clear nm nz ny n3; intro nm nz ny n3
        clear H; go_wp2_with fail; obtain ⟨d1_0, d1_1, d1_2⟩ := S.c3 1 rfl
        exact bodyPost_ret (v := .tuple #[.agg #[.bool b3, .slice p3 l3 K3, .int .i64 e3], .int .i64 0]) (by simp [results, Tryz.f74, go_sem, d1_0, d1_1, d1_2]) rfl (⟨⟨_, rfl, b3, p3, l3, K3, m3, e3, rfl, h3, n3, d3⟩, S.below⟩)
    | false =>
      have HU := Lib.hid (show z = z1 by rw [← hz1, ← HZ.out.1]; unfold rndI; rw [if_neg (by decide), Int.add_zero])
      clear hz1
      have S := ((St.start w).alloc 27 [.bool b, .slice p l K, .int .i64 e] (w.heap.size)).alloc 27 [.bool false, .slice none 0 0, .int .i64 0] (w.heap.size + 1)
      try simp only [List.cons_append, List.nil_append] at S
      replace nm := nm.hold S.hold
      obtain ⟨c0_0, c0_1, c0_2⟩ := S.c3 0 rfl; obtain ⟨c1_0, c1_1, c1_2⟩ := S.c3 1 rfl
      go_enter Tryz.func74, Tryz.ntmps74
      go_wp2_with fail; clear c0_0 c0_1 c0_2 c1_0 c1_1 c1_2
      refine (S.call (bits_in n _ HN.out.1 HN.out.2)).mono ?_
      clear S
      rintro e w1 ⟨rfl, S, H⟩
      replace nm := nm.hold H; clear H; obtain ⟨c0_0, c0_1, c0_2⟩ := S.c3 0 rfl; obtain ⟨c1_0, c1_1, c1_2⟩ := S.c3 1 rfl; go_wp2_with fail; clear c0_0 c0_1 c0_2 c1_0 c1_1 c1_2
      refine (S.call (bits_nat nm HD.out.2.2.1 HD.out.2.1)).mono ?_
      clear S
      rintro e w2 ⟨rfl, S, H⟩
      replace nm := nm.hold H; clear H; obtain ⟨c0_0, c0_1, c0_2⟩ := S.c3 0 rfl; obtain ⟨c1_0, c1_1, c1_2⟩ := S.c3 1 rfl; clear c0_0 c0_1 c0_2 c1_0 c1_1 c1_2; obtain ⟨c0_0, c0_1, c0_2⟩ := S.c3 0 rfl; obtain ⟨c1_0, c1_1, c1_2⟩ := S.c3 1 rfl; go_wp2_with fail; clear c0_0 c0_1 c0_2 c1_0 c1_1 c1_2
      refine (S.call (wright_any (HD.out.1.below S.below) ⟨_, _, _, by rw [hb.out], nm⟩ HD.out.2.2.1 v HZ.out.2.2.2.1 z HZ.out.1)).mono ?_
      clear S
      rintro e w3 ⟨⟨_, rfl, pz, lz, Kz, rfl, nz⟩, S, H⟩
      replace nm := nm.hold H; clear H; obtain ⟨c0_0, c0_1, c0_2⟩ := S.c3 0 rfl; obtain ⟨c1_0, c1_1, c1_2⟩ := S.c3 1 rfl
      have H := S.hnew 25 [.bool (negB z), .slice pz lz Kz]
      replace S := S.al 25 [.bool (negB z), .slice pz lz Kz] (w3.heap.size)
      replace nm := nm.hold H; replace nz := nz.hold H
      clear H; clear c0_0 c0_1 c0_2 c1_0 c1_1 c1_2; obtain ⟨c0_0, c0_1, c0_2⟩ := S.c3 0 rfl; obtain ⟨c1_0, c1_1, c1_2⟩ := S.c3 1 rfl; have c2_0 := S.c 2 0 rfl rfl; have c2_1 := S.c 2 1 rfl rfl; go_wp2_with fail; clear c0_0 c0_1 c0_2 c1_0 c1_1 c1_2 c2_0 c2_1
      refine (S.call (dtimes_any (HD.out.1.below S.below) ⟨_, _, _, rfl, nz⟩ (by rw [HU.out]; exact HZ.out.2.1) HD.out.2.2.2 y (by rw [HU.out]; exact HZ.out.2.2.1))).mono ?_
      clear S
      rintro e w4 ⟨⟨_, rfl, b3, p3, l3, K3, m3, e3, rfl, h3, n3, d3⟩, S, H⟩
      replace nm := nm.hold H; replace nz := nz.hold H
      clear H; obtain ⟨c0_0, c0_1, c0_2⟩ := S.c3 0 rfl; obtain ⟨c1_0, c1_1, c1_2⟩ := S.c3 1 rfl; have c2_0 := S.c 2 0 rfl rfl; have c2_1 := S.c 2 1 rfl rfl
      obtain ⟨f1_0, f1_1, f1_2⟩ := S.f3 1 rfl
      have HP := S.put3 1 (.bool b3) (.slice p3 l3 K3) (.int .i64 e3) rfl rfl; have H := HP.2; replace S := HP.1; clear HP
      refine iw3 H nm nz n3 ?_; clear nm nz n3; intro nm nz n3
      clear H; go_wp2_with fail; obtain ⟨d1_0, d1_1, d1_2⟩ := S.c3 1 rfl
      exact bodyPost_ret (v := .tuple #[.agg #[.bool b3, .slice p3 l3 K3, .int .i64 e3], .int .i64 0]) (by simp [results, Tryz.f74, go_sem, d1_0, d1_1, d1_2]) rfl (⟨⟨_, rfl, b3, p3, l3, K3, m3, e3, rfl, h3, n3, d3⟩, S.below⟩)
def IsSp (w : World) (v : Value) (x y : Rat) (L H : Nat) : Prop :=
  ∃ b p l K m e c q k J n f, v = .agg #[.bool b, .slice p l K, .int .i64 e, .bool c, .slice q k J, .int .i64 f] ∧ Hid (negB m = b) ∧ IsNat w (.slice p l K) m.natAbs ∧ Hid (DyF m e x L H) ∧ Hid (negB n = c) ∧ IsNat w (.slice q k J) n.natAbs ∧ Hid (DyF n f y L H)
theorem IsSp.mono {w : World} {v : Value} {x y : Rat} {L H L' H' : Nat} (h : IsSp w v x y L H) (hL : L ≤ L') (hH : H ≤ H') : IsSp w v x y L' H' := by
  obtain ⟨b, p, l, K, m, e, c, q, k, J, n, f, h1, h2, h3, h4, h5, h6, h7⟩ := h
  exact ⟨b, p, l, K, m, e, c, q, k, J, n, f, h1, h2, h3, h4.out.mono hL hH, h5, h6, h7.out.mono hL hH⟩
theorem IsSp.hold {w w' : World} {v : Value} {x y : Rat} {L H : Nat} (h : Hold w w') : IsSp w v x y L H → IsSp w' v x y L H
  | ⟨b, p, l, K, m, e, c, q, k, J, n, f, h1, h2, h3, h4, h5, h6, h7⟩ => ⟨b, p, l, K, m, e, c, q, k, J, n, f, h1, h2, h3.hold h, h4, h5, h6.hold h, h7⟩
instance hdI10 {w w' : World} {v : Value} {x y : Rat} {L H : Nat} : Hd w w' (IsSp w v x y L H) (IsSp w' v x y L H) := ⟨IsSp.hold⟩
set_option maxRecDepth 100000 in
set_option maxHeartbeats 2000000 in
theorem scopied_any {va : Value} {x : Rat} {w : World} {L H : Nat} (ha : IsD w va x L H) (hk : H + L ≤ 16384) :
    Calls Tryz.prog 83 #[va] w fun e w' => (∃ u, e = .returned u ∧ IsD w' u x L H) ∧ Below w.heap.size w w' := by
  obtain ⟨b, p, l, K, m, f, rfl, hb, nm, hm⟩ := ha
  have HK := Lib.hid hk
  clear hk
  have S := ((St.start w).alloc 27 [.bool b, .slice p l K, .int .i64 f] (w.heap.size)).alloc 27 [.bool false, .slice none 0 0, .int .i64 0] (w.heap.size + 1)
  try simp only [List.cons_append, List.nil_append] at S
  replace nm := nm.hold S.hold
  obtain ⟨c0_0, c0_1, c0_2⟩ := S.c3 0 rfl; obtain ⟨c1_0, c1_1, c1_2⟩ := S.c3 1 rfl
  go_enter Tryz.func83, Tryz.ntmps83
  go_upto_region 1 with fail
  clear c0_0 c0_1 c0_2 c1_0 c1_1 c1_2
  generalize ((w.alloc (.cells #[.bool b, .slice p l K, .int .i64 f] 27)).alloc (.cells #[.bool false, .slice none 0 0, .int .i64 0] 27)) = w1 at S nm ⊢
  have HH := (Hold.drew w1).to32
  replace nm := nm.hold32 HH
  replace S := S.drew
  refine wp_region_held_drew (S := fun W => W.cell? ⟨w.heap.size, 0, none⟩ = some (.bool b) ∧ W.cell? ⟨w.heap.size, 1, none⟩ = some (.slice p l K) ∧ W.cell? ⟨w.heap.size, 2, none⟩ = some (.int .i64 f)) (by kernel_rfl) (S.c3 0 rfl) (fun hS => ?_)
  generalize w1.drew = w2 at S nm HH hS ⊢
  refine tk 0 hS ?_
  refine tk 1 hS ?_
  refine tk 2 hS ?_
  refine tk 3 hS ?_
  refine tk 4 hS ?_
  refine tk 5 hS ?_
  refine tk 8 hS ?_
  refine tk 9 hS ?_
  refine rd 6 fun KK hKK => ?_
  go_simp; clear hS
  refine (S.call (clone_any nm (hm.out.max HK.out))).mono ?_
  clear S
  rintro e w3 ⟨⟨_, rfl, nc⟩, S, H⟩
  replace nm := nm.hold H; replace HH := HH.trans H.to32; clear H
  obtain ⟨pc, lc, Kc, rfl⟩ := nc.form
  go_wp2_with fail
  refine ho hKK (S.c3 0 rfl) fun hS => ?_
  clear hKK KK
  refine tk 7 hS ?_
  refine tk 10 hS ?_
  refine rd 11 fun KK hKK => ?_
  obtain ⟨c0, c1, c2⟩ := S.c3 1 rfl; obtain ⟨f0, f1, f2⟩ := S.f3 1 rfl
  go_simp; clear hS c0 f0 c1 f1 c2 f2
  have HP := S.put3 1 (.bool b) (.slice pc lc Kc) (.int .i64 f) rfl rfl; have H := HP.2; replace S := HP.1; clear HP
  replace nm := nm.hold32 H; replace nc := nc.hold32 H; replace HH := HH.trans H; clear H
  refine ho hKK (S.c3 0 rfl) fun hS => ?_
  generalize (((w3.setCell ⟨w.heap.size + 1, 0, none⟩ (.bool b)).setCell ⟨w.heap.size + 1, 1, none⟩ (.slice pc lc Kc)).setCell ⟨w.heap.size + 1, 2, none⟩ (.int .i64 f)) = w4 at S nm nc HH hS ⊢
  clear hKK KK
  refine wpAnyH_done (by kernel_rfl) ?_ _
  clear hS HH; obtain ⟨c0_0, c0_1, c0_2⟩ := S.c3 0 rfl; obtain ⟨c1_0, c1_1, c1_2⟩ := S.c3 1 rfl; go_wp2_with fail; obtain ⟨d1_0, d1_1, d1_2⟩ := S.c3 1 rfl
  exact bodyPost_ret (v := .agg #[.bool b, .slice pc lc Kc, .int .i64 f]) (by simp [results, Tryz.f83, go_sem, d1_0, d1_1, d1_2]) rfl (⟨⟨_, rfl, b, pc, lc, Kc, m, f, rfl, hb, nc, hm⟩, S.below⟩)
set_option maxRecDepth 100000 in
set_option maxHeartbeats 2000000 in
theorem spoint_any {va : Value} {x : Rat} {w : World} {L H : Nat} (ha : IsD w va x L H) (hk : H + L ≤ 16384) :
    Calls Tryz.prog 24 #[va] w fun e w' => (∃ u, e = .returned u ∧ IsSp w' u x x L H) ∧ Below w.heap.size w w' := by
  obtain ⟨b1, p1, l1, K1, m1, e1, rfl, h1, n1, d1⟩ := ha
  have HK := Lib.hid hk
  clear hk
  have S := ((St.start w).alloc 27 [.bool b1, .slice p1 l1 K1, .int .i64 e1] (w.heap.size)).alloc 29 [.bool false, .slice none 0 0, .int .i64 0, .bool false, .slice none 0 0, .int .i64 0] (w.heap.size + 1)
  try simp only [List.cons_append, List.nil_append] at S
  replace n1 := n1.hold S.hold
  obtain ⟨c0_0, c0_1, c0_2⟩ := S.c3 0 rfl; obtain ⟨c1_0, c1_1, c1_2, c1_3, c1_4, c1_5⟩ := S.c6 1 rfl
  go_enter Tryz.func24, Tryz.ntmps24
  go_upto_region 1 with fail
  clear c0_0 c0_1 c0_2 c1_0 c1_1 c1_2 c1_3 c1_4 c1_5
  generalize ((w.alloc (.cells #[.bool b1, .slice p1 l1 K1, .int .i64 e1] 27)).alloc (.cells #[.bool false, .slice none 0 0, .int .i64 0, .bool false, .slice none 0 0, .int .i64 0] 29)) = w1 at S n1 ⊢
  have HH := (Hold.drew w1).to32
  replace n1 := n1.hold32 HH
  replace S := S.drew
  refine wp_region_held_drew (S := fun W => W.cell? ⟨w.heap.size, 0, none⟩ = some (.bool b1) ∧ W.cell? ⟨w.heap.size, 1, none⟩ = some (.slice p1 l1 K1) ∧ W.cell? ⟨w.heap.size, 2, none⟩ = some (.int .i64 e1)) (by kernel_rfl) (S.c3 0 rfl) (fun hS => ?_)
  generalize w1.drew = w2 at S n1 HH hS ⊢
  refine tk 0 hS ?_
  refine tk 2 hS ?_
  refine rd 1 fun KK hKK => ?_
  go_simp; clear hS
  refine (S.call (scopied_any ⟨b1, p1, l1, K1, m1, e1, rfl, h1, n1, d1⟩ HK.out)).mono ?_
  clear S
  rintro e w3 ⟨⟨_, rfl, b3, p3, l3, K3, m3, e3, rfl, h3, n3, d3⟩, S, H⟩
  replace n1 := n1.hold H; replace HH := HH.trans H.to32; clear H
  go_wp2_with fail
  refine ho hKK (S.c3 0 rfl) fun hS => ?_
  clear hKK KK
  refine rd 3 fun KK hKK => ?_
  go_simp; clear hS
  refine (S.call (scopied_any ⟨b1, p1, l1, K1, m1, e1, rfl, h1, n1, d1⟩ HK.out)).mono ?_
  clear S
  rintro e w4 ⟨⟨_, rfl, b4, p4, l4, K4, m4, e4, rfl, h4, n4, d4⟩, S, H⟩
  replace n1 := n1.hold H; replace n3 := n3.hold H; replace HH := HH.trans H.to32; clear H
  go_wp2_with fail
  refine ho hKK (S.c3 0 rfl) fun hS => ?_
  clear hKK KK
  refine tk 4 hS ?_
  refine rd 5 fun KK hKK => ?_
  obtain ⟨c0, c1, c2, c3, c4, c5⟩ := S.c6 1 rfl; obtain ⟨f0, f1, f2, f3, f4, f5⟩ := S.f6 1 rfl
  go_simp; clear hS c0 f0 c1 f1 c2 f2 c3 f3 c4 f4 c5 f5
  have HP := S.put6 1 (.bool b3) (.slice p3 l3 K3) (.int .i64 e3) (.bool b4) (.slice p4 l4 K4) (.int .i64 e4) rfl rfl; have H := HP.2; replace S := HP.1; clear HP
  refine iw3 H n1 n3 n4 ?_; clear n1 n3 n4; intro n1 n3 n4; replace HH := HH.trans H; clear H
  refine ho hKK (S.c3 0 rfl) fun hS => ?_
  generalize ((((((w4.setCell ⟨w.heap.size + 1, 0, none⟩ (.bool b3)).setCell ⟨w.heap.size + 1, 1, none⟩ (.slice p3 l3 K3)).setCell ⟨w.heap.size + 1, 2, none⟩ (.int .i64 e3)).setCell ⟨w.heap.size + 1, 3, none⟩ (.bool b4)).setCell ⟨w.heap.size + 1, 4, none⟩ (.slice p4 l4 K4)).setCell ⟨w.heap.size + 1, 5, none⟩ (.int .i64 e4)) = w5 at S n1 n3 n4 HH hS ⊢
  clear hKK KK
  refine wpAnyH_done (by kernel_rfl) ?_ _
  clear hS HH; obtain ⟨c0_0, c0_1, c0_2⟩ := S.c3 0 rfl; obtain ⟨c1_0, c1_1, c1_2, c1_3, c1_4, c1_5⟩ := S.c6 1 rfl; go_wp2_with fail; obtain ⟨d1_0, d1_1, d1_2, d1_3, d1_4, d1_5⟩ := S.c6 1 rfl
  exact bodyPost_ret (v := .agg #[.bool b3, .slice p3 l3 K3, .int .i64 e3, .bool b4, .slice p4 l4 K4, .int .i64 e4]) (by simp [results, Tryz.f24, go_sem, d1_0, d1_1, d1_2, d1_3, d1_4, d1_5]) rfl (⟨⟨_, rfl, b3, p3, l3, K3, m3, e3, b4, p4, l4, K4, m4, e4, rfl, h3, n3, d3, h4, n4, d4⟩, S.below⟩)
set_option maxRecDepth 100000 in
set_option maxHeartbeats 2000000 in
theorem ssize_any {va : Value} {x y : Rat} {w : World} {L H : Nat} (ha : IsSp w va x y L H) (hk : H + L ≤ 16384) :
    Calls Tryz.prog 65 #[va] w fun e w' => (∃ u, e = .returned u ∧ IsD w' u (max2 x.abs y.abs) L H) ∧ Below w.heap.size w w' := by
  obtain ⟨b1, p1, l1, K1, m1, e1, b2, p2, l2, K2, m2, e2, rfl, h1, n1, d1, h2, n2, d2⟩ := ha
  have HK := Lib.hid hk
  clear hk
  have S := ((St.start w).alloc 29 [.bool b1, .slice p1 l1 K1, .int .i64 e1, .bool b2, .slice p2 l2 K2, .int .i64 e2] (w.heap.size)).alloc 27 [.bool false, .slice none 0 0, .int .i64 0] (w.heap.size + 1)
  try simp only [List.cons_append, List.nil_append] at S
  replace n1 := n1.hold S.hold; replace n2 := n2.hold S.hold
  obtain ⟨c0_0, c0_1, c0_2, c0_3, c0_4, c0_5⟩ := S.c6 0 rfl; obtain ⟨c1_0, c1_1, c1_2⟩ := S.c3 1 rfl
  go_enter Tryz.func65, Tryz.ntmps65
  go_upto_region 1 with fail
  clear c0_0 c0_1 c0_2 c0_3 c0_4 c0_5 c1_0 c1_1 c1_2
  generalize ((w.alloc (.cells #[.bool b1, .slice p1 l1 K1, .int .i64 e1, .bool b2, .slice p2 l2 K2, .int .i64 e2] 29)).alloc (.cells #[.bool false, .slice none 0 0, .int .i64 0] 27)) = w1 at S n1 n2 ⊢
  have HH := (Hold.drew w1).to32
  replace n1 := n1.hold32 HH; replace n2 := n2.hold32 HH
  replace S := S.drew
  refine wp_region_held_drew (S := fun W => W.cell? ⟨w.heap.size, 0, none⟩ = some (.bool b1) ∧ W.cell? ⟨w.heap.size, 1, none⟩ = some (.slice p1 l1 K1) ∧ W.cell? ⟨w.heap.size, 2, none⟩ = some (.int .i64 e1) ∧ W.cell? ⟨w.heap.size, 3, none⟩ = some (.bool b2) ∧ W.cell? ⟨w.heap.size, 4, none⟩ = some (.slice p2 l2 K2) ∧ W.cell? ⟨w.heap.size, 5, none⟩ = some (.int .i64 e2)) (by kernel_rfl) (S.c6 0 rfl) (fun hS => ?_)
  generalize w1.drew = w2 at S n1 n2 HH hS ⊢
  refine tk 0 hS ?_
  refine tk 1 hS ?_
  refine tk 3 hS ?_
  refine tk 4 hS ?_
  refine rd 2 fun KK hKK => ?_
  go_simp; clear hS
  refine (S.call (dabs_any ⟨b1, p1, l1, K1, m1, e1, rfl, h1, n1, d1⟩ HK.out)).mono ?_
  clear S
  rintro e w3 ⟨⟨_, rfl, b3, p3, l3, K3, m3, e3, rfl, h3, n3, d3⟩, S, H⟩
  replace n1 := n1.hold H; replace n2 := n2.hold H; replace HH := HH.trans H.to32; clear H
  go_wp2_with fail
  refine ho hKK (S.c6 0 rfl) fun hS => ?_
  clear hKK KK
  refine rd 5 fun KK hKK => ?_
  go_simp; clear hS
  refine (S.call (dabs_any ⟨b2, p2, l2, K2, m2, e2, rfl, h2, n2, d2⟩ HK.out)).mono ?_
  clear S
  rintro e w4 ⟨⟨_, rfl, b4, p4, l4, K4, m4, e4, rfl, h4, n4, d4⟩, S, H⟩
  refine iv3 H n1 n2 n3 ?_; clear n1 n2 n3; intro n1 n2 n3; replace HH := HH.trans H.to32; clear H
  go_wp2_with fail
  refine ho hKK (S.c6 0 rfl) fun hS => ?_
  clear hKK KK
  refine rd 6 fun KK hKK => ?_
  go_simp; clear hS
  refine (S.call (dmax_any ⟨b3, p3, l3, K3, m3, e3, rfl, h3, n3, d3⟩ ⟨b4, p4, l4, K4, m4, e4, rfl, h4, n4, d4⟩ HK.out)).mono ?_
  clear S
  rintro e w5 ⟨⟨_, rfl, b5, p5, l5, K5, m5, e5, rfl, h5, n5, d5⟩, S, H⟩
  refine iv4 H n1 n2 n3 n4 ?_; clear n1 n2 n3 n4; intro n1 n2 n3 n4; replace HH := HH.trans H.to32; clear H
  go_wp2_with fail
  refine ho hKK (S.c6 0 rfl) fun hS => ?_
  clear hKK KK
  refine rd 7 fun KK hKK => ?_
  obtain ⟨c0, c1, c2⟩ := S.c3 1 rfl; obtain ⟨f0, f1, f2⟩ := S.f3 1 rfl
  go_simp; clear hS c0 f0 c1 f1 c2 f2
  have HP := S.put3 1 (.bool b5) (.slice p5 l5 K5) (.int .i64 e5) rfl rfl; have H := HP.2; replace S := HP.1; clear HP
  refine iw5 H n1 n2 n3 n4 n5 ?_; clear n1 n2 n3 n4 n5; intro n1 n2 n3 n4 n5; replace HH := HH.trans H; clear H
  refine ho hKK (S.c6 0 rfl) fun hS => ?_
  generalize (((w5.setCell ⟨w.heap.size + 1, 0, none⟩ (.bool b5)).setCell ⟨w.heap.size + 1, 1, none⟩ (.slice p5 l5 K5)).setCell ⟨w.heap.size + 1, 2, none⟩ (.int .i64 e5)) = w6 at S n1 n2 n3 n4 n5 HH hS ⊢
  clear hKK KK
  refine wpAnyH_done (by kernel_rfl) ?_ _
  clear hS HH; obtain ⟨c0_0, c0_1, c0_2, c0_3, c0_4, c0_5⟩ := S.c6 0 rfl; obtain ⟨c1_0, c1_1, c1_2⟩ := S.c3 1 rfl; go_wp2_with fail; obtain ⟨d1_0, d1_1, d1_2⟩ := S.c3 1 rfl
  exact bodyPost_ret (v := .agg #[.bool b5, .slice p5 l5 K5, .int .i64 e5]) (by simp [results, Tryz.f65, go_sem, d1_0, d1_1, d1_2]) rfl (⟨⟨_, rfl, b5, p5, l5, K5, m5, e5, rfl, h5, n5, d5⟩, S.below⟩)
theorem IsSp.hold32 {w w' : World} {v : Value} {x y : Rat} {L H : Nat} (h : Hold32 w w') : IsSp w v x y L H → IsSp w' v x y L H
  | ⟨b, p, l, K, m, e, c, q, k, J, n, f, h1, h2, h3, h4, h5, h6, h7⟩ => ⟨b, p, l, K, m, e, c, q, k, J, n, f, h1, h2, h3.hold32 h, h4, h5, h6.hold32 h, h7⟩
def SL (w : World) (L H : Nat) : List Value → List (Rat × Rat) → Prop
  | [], [] => True
  | v0 :: v1 :: v2 :: v3 :: v4 :: v5 :: vs, q :: qs => IsSp w (.agg #[v0, v1, v2, v3, v4, v5]) q.1 q.2 L H ∧ SL w L H vs qs
  | _, _ => False
theorem SL.len {w : World} {L H : Nat} : ∀ {vs : List Value} {qs : List (Rat × Rat)}, SL w L H vs qs → vs.length = qs.length * 6
  | [], [], _ => rfl
  | _ :: _ :: _ :: _ :: _ :: _ :: vs, _ :: qs, ⟨_, h⟩ => by simp [SL.len h]; omega
theorem SL.hold {w w' : World} {L H : Nat} (k : Hold w w') : ∀ {vs : List Value} {qs : List (Rat × Rat)}, SL w L H vs qs → SL w' L H vs qs
  | [], [], _ => trivial
  | _ :: _ :: _ :: _ :: _ :: _ :: _, _ :: _, ⟨h1, h2⟩ => ⟨h1.hold k, SL.hold k h2⟩
theorem SL.hold32 {w w' : World} {L H : Nat} (k : Hold32 w w') : ∀ {vs : List Value} {qs : List (Rat × Rat)}, SL w L H vs qs → SL w' L H vs qs
  | [], [], _ => trivial
  | _ :: _ :: _ :: _ :: _ :: _ :: _, _ :: _, ⟨h1, h2⟩ => ⟨h1.hold32 k, SL.hold32 k h2⟩
instance hdI22 {w w' : World} {L H : Nat} {vs : List Value} {qs : List (Rat × Rat)} : Hd w w' (SL w L H vs qs) (SL w' L H vs qs) := ⟨fun h => SL.hold h⟩
instance hdI23 {w w' : World} {L H : Nat} {vs : List Value} {qs : List (Rat × Rat)} : He w w' (SL w L H vs qs) (SL w' L H vs qs) := ⟨fun h => SL.hold32 h⟩
theorem SL.app {w : World} {L H : Nat} : ∀ {vs : List Value} {qs : List (Rat × Rat)} {us : List Value} {rs : List (Rat × Rat)}, SL w L H vs qs → SL w L H us rs → SL w L H (vs ++ us) (qs ++ rs)
  | [], [], _, _, _, h => h
  | _ :: _ :: _ :: _ :: _ :: _ :: _, _ :: _, _, _, ⟨h1, h2⟩, h => ⟨h1, SL.app h2 h⟩
theorem SL.snoc {w : World} {L H : Nat} {vs : List Value} {qs : List (Rat × Rat)} {v0 v1 v2 v3 v4 v5 : Value} {q : Rat × Rat} (h : SL w L H vs qs) (h1 : IsSp w (.agg #[v0, v1, v2, v3, v4, v5]) q.1 q.2 L H) : SL w L H (vs ++ [v0, v1, v2, v3, v4, v5]) (qs ++ [q]) := h.app ⟨h1, trivial⟩
theorem SL.get {w : World} {L H : Nat} : ∀ {vs : List Value} {qs : List (Rat × Rat)} {j : Nat} {q : Rat × Rat}, SL w L H vs qs → qs[j]? = some q → ∃ v0 v1 v2 v3 v4 v5, vs[j * 6]? = some v0 ∧ vs[j * 6 + 1]? = some v1 ∧ vs[j * 6 + 2]? = some v2 ∧ vs[j * 6 + 3]? = some v3 ∧ vs[j * 6 + 4]? = some v4 ∧ vs[j * 6 + 5]? = some v5 ∧ IsSp w (.agg #[v0, v1, v2, v3, v4, v5]) q.1 q.2 L H
  | [], [], _, _, _, h => by simp at h
  | v0 :: v1 :: v2 :: v3 :: v4 :: v5 :: vs, r :: qs, 0, q, ⟨h1, _⟩, h => by cases h; exact ⟨v0, v1, v2, v3, v4, v5, rfl, rfl, rfl, rfl, rfl, rfl, h1⟩
  | _ :: _ :: _ :: _ :: _ :: _ :: vs, _ :: qs, j + 1, q, ⟨_, h2⟩, h => by
    obtain ⟨v0, v1, v2, v3, v4, v5, e0, e1, e2, e3, e4, e5, hr⟩ := SL.get (j := j) h2 (by simpa using h)
    refine ⟨v0, v1, v2, v3, v4, v5, ?_, ?_, ?_, ?_, ?_, ?_, hr⟩
    · rw [show (j + 1) * 6 = j * 6 + 6 by omega]; simpa using e0
    · rw [show (j + 1) * 6 + 1 = (j * 6 + 1) + 6 by omega]; simpa using e1
    · rw [show (j + 1) * 6 + 2 = (j * 6 + 2) + 6 by omega]; simpa using e2
    · rw [show (j + 1) * 6 + 3 = (j * 6 + 3) + 6 by omega]; simpa using e3
    · rw [show (j + 1) * 6 + 4 = (j * 6 + 4) + 6 by omega]; simpa using e4
    · rw [show (j + 1) * 6 + 5 = (j * 6 + 5) + 6 by omega]; simpa using e5
theorem SL.mono {w : World} {L H L' H' : Nat} (hL : L ≤ L') (hH : H ≤ H') : ∀ {vs : List Value} {qs : List (Rat × Rat)}, SL w L H vs qs → SL w L' H' vs qs
  | [], [], _ => trivial
  | _ :: _ :: _ :: _ :: _ :: _ :: _, _ :: _, ⟨h1, h2⟩ => ⟨h1.mono hL hH, SL.mono hL hH h2⟩
def Spans (w : World) (v : Value) (qs : List (Rat × Rat)) (L H : Nat) : Prop := ∃ g off c vs, v = .slice (some ⟨g, off, none⟩) qs.length c ∧ g < w.heap.size ∧ qs.length ≤ c ∧ ArrAt w g off vs ∧ SL w L H vs qs
theorem Spans.to {w w' : World} {v : Value} {qs : List (Rat × Rat)} {L H : Nat} (h : Spans w v qs L H) (hB : Below w.heap.size w w') : Spans w' v qs L H := by
  obtain ⟨g, off, c, vs, e, hg, hc, ha, hr⟩ := h
  exact ⟨g, off, c, vs, e, Nat.lt_of_lt_of_le hg hB.size, hc, ha.to hg hB, hr.hold (Hold.of_below hB)⟩
theorem Spans.mono {w : World} {v : Value} {qs : List (Rat × Rat)} {L H L' H' : Nat} (h : Spans w v qs L H) (hL : L ≤ L') (hH : H ≤ H') : Spans w v qs L' H' := by
  obtain ⟨g, off, c, vs, e, hg, hc, ha, hr⟩ := h
  exact ⟨g, off, c, vs, e, hg, hc, ha, hr.mono hL hH⟩
theorem Spans.form {w : World} {v : Value} {qs : List (Rat × Rat)} {L H : Nat} (h : Spans w v qs L H) : ∃ g off c, v = .slice (some ⟨g, off, none⟩) qs.length c ∧ g < w.heap.size := by
  obtain ⟨g, off, c, vs, e, hg, _⟩ := h
  exact ⟨g, off, c, e, hg⟩
theorem Spans.get {w : World} {g off n c : Nat} {qs : List (Rat × Rat)} {L H : Nat} (h : Spans w (.slice (some ⟨g, off, none⟩) n c) qs L H) {j : Nat} (hj : j < n) : ∃ q b1 p1 l1 K1 m1 e1 b2 p2 l2 K2 m2 e2, qs[j]? = some q ∧
    w.cell? ⟨g, off + j * 6, none⟩ = some (.bool b1) ∧ w.cell? ⟨g, off + j * 6 + 1, none⟩ = some (.slice p1 l1 K1) ∧ w.cell? ⟨g, off + j * 6 + 2, none⟩ = some (.int .i64 e1) ∧ w.cell? ⟨g, off + j * 6 + 3, none⟩ = some (.bool b2) ∧ w.cell? ⟨g, off + j * 6 + 4, none⟩ = some (.slice p2 l2 K2) ∧ w.cell? ⟨g, off + j * 6 + 5, none⟩ = some (.int .i64 e2) ∧
    Hid (negB m1 = b1) ∧ IsNat w (.slice p1 l1 K1) m1.natAbs ∧ Hid (DyF m1 e1 q.1 L H) ∧ Hid (negB m2 = b2) ∧ IsNat w (.slice p2 l2 K2) m2.natAbs ∧ Hid (DyF m2 e2 q.2 L H) := by
  obtain ⟨g', off', c', vs, e, hg, _, ha, hr⟩ := h
  cases e
  have hq : qs[j]? = some (qs[j]'hj) := List.getElem?_eq_getElem _
  obtain ⟨v0, v1, v2, v3, v4, v5, e0, e1, e2, e3, e4, e5, b1, p1, l1, K1, m1, x1, b2, p2, l2, K2, m2, x2, hv, k1, k2, k3, k4, k5, k6⟩ := hr.get hq
  simp only [Value.agg.injEq, Array.mk.injEq, List.cons.injEq, and_true] at hv
  obtain ⟨rfl, rfl, rfl, rfl, rfl, rfl⟩ := hv
  exact ⟨_, b1, p1, l1, K1, m1, x1, b2, p2, l2, K2, m2, x2, hq, ha _ _ e0, ha _ _ e1, ha _ _ e2, ha _ _ e3, ha _ _ e4, ha _ _ e5, k1, k2, k3, k4, k5, k6⟩
def FreshS (w w' : World) (v : Value) (qs : List (Rat × Rat)) (L H : Nat) : Prop := ∃ g vs, v = .slice (some ⟨g, 0, none⟩) qs.length qs.length ∧ w.heap.size ≤ g ∧ w'.heap[g]? = some (.cells vs.toArray 29 (0, 0)) ∧ SL w' L H vs qs
theorem FreshS.from {w W w' : World} {v : Value} {qs : List (Rat × Rat)} {L H : Nat} (h : FreshS W w' v qs L H) (hl : w.heap.size ≤ W.heap.size) : FreshS w w' v qs L H := by
  obtain ⟨g, vs, e, hg, hh, hr⟩ := h
  exact ⟨g, vs, e, Nat.le_trans hl hg, hh, hr⟩
theorem FreshS.spans {w W : World} {v : Value} {qs : List (Rat × Rat)} {L H : Nat} (h : FreshS w W v qs L H) : Spans W v qs L H := by
  obtain ⟨g, vs, e, hg, hh, hr⟩ := h
  exact ⟨g, 0, _, vs, e, lt_of_heap hh, Nat.le_refl _, .of_heap hh, hr⟩
theorem info_span : (Tryz.prog.info? 29).map (fun i => (i.zero, i.size, i.bytes)) = some (some (.agg #[.bool false, .slice none 0 0, .int .i64 0, .bool false, .slice none 0 0, .int .i64 0]), 6, 80) := by kernel_rfl
def zr6 : Nat → List Value
  | 0 => []
  | n + 1 => .bool false :: .slice none 0 0 :: .int .i64 0 :: .bool false :: .slice none 0 0 :: .int .i64 0 :: zr6 n
theorem zr6_made : ∀ n : Nat, (madeCells #[.bool false, .slice none 0 0, .int .i64 0, .bool false, .slice none 0 0, .int .i64 0] (n * 6)).toList = zr6 n
  | 0 => by simp [madeCells, zr6]
  | n + 1 => by
    have ih := zr6_made n
    simp only [madeCells, Array.toList_map, Array.toList_range] at ih ⊢
    rw [show (n + 1) * 6 = 6 + n * 6 by omega, List.range_add, List.map_append, List.map_map]
    rw [show ((fun x => (#[Value.bool false, .slice none 0 0, .int .i64 0, .bool false, .slice none 0 0, .int .i64 0] : Array Value)[x % (#[Value.bool false, .slice none 0 0, .int .i64 0, .bool false, .slice none 0 0, .int .i64 0] : Array Value).size]!) ∘ fun x => 6 + x) = (fun x => (#[Value.bool false, .slice none 0 0, .int .i64 0, .bool false, .slice none 0 0, .int .i64 0] : Array Value)[x % (#[Value.bool false, .slice none 0 0, .int .i64 0, .bool false, .slice none 0 0, .int .i64 0] : Array Value).size]!) from funext fun x => by
      show (#[Value.bool false, .slice none 0 0, .int .i64 0, .bool false, .slice none 0 0, .int .i64 0] : Array Value)[(6 + x) % 6]! = (#[Value.bool false, .slice none 0 0, .int .i64 0, .bool false, .slice none 0 0, .int .i64 0] : Array Value)[x % 6]!
      rw [Nat.add_mod_left]]
    rw [ih]
    rfl
section
variable {ops : Array Oper} {rest : List Oper} {o : Oper} {a : Act} {Q : Exit → Act → World → Prop} {w0 w : World} {LL : List (Nat × TypeId × List Value)}
theorem make_spans (S : St w0 w LL) (hg : o.guard = none) (l c : Operand) (hop : o.op = Op.makeSlice 69 l c) (L C : Int) (n : Nat) (hl : a.eval l = .int .i64 L) (hc : a.eval c = .int .i64 C) (hL : L = (n : Int)) (hC : C = (n : Int))
    (hn : n ≤ 1000000000)
    (hK : ∀ w', St w0 w' (LL ++ [(w.heap.size, 29, zr6 n)]) → Below w.heap.size w w' → wpList Tryz.prog ops Q rest (a.put o.dst (.slice (some ⟨w.heap.size, 0, none⟩) n n)) w') :
    wpList Tryz.prog ops Q (o :: rest) a w := by
  obtain ⟨i0, hi, hz0, hz1, hz2⟩ := info_parts info_span
  refine wpList_make_full w hg l c _ hop w.heap.size 29 i0 _ 6 Tryz.underlying69 hi hz0 hz1 .i64 .i64 L C n hl hc hL hC (by rw [hz2]; omega) (by unfold maxLen; omega) (Nat.le_refl _) ?_
  intro w' ho hgr
  have hB := (Below.refl _ w).grown hgr (Nat.le_refl _) (fun _ e => by cases e)
  have hh := made_cells ho
  rw [show (Value.agg #[.bool false, .slice none 0 0, .int .i64 0, .bool false, .slice none 0 0, .int .i64 0]).cells = #[.bool false, .slice none 0 0, .int .i64 0, .bool false, .slice none 0 0, .int .i64 0] by kernel_rfl, zr6_made] at hh
  exact hK w' (S.adopt hB (Nat.le_refl _) hh) hB
end
theorem St.put1 {w W : World} {L : List (Nat × TypeId × List Value)} (S : St w W L) (i j : Nat) (v : Value) {b : Nat} {t : TypeId} {vs : List Value} {x : Value} (hi : L[i]? = some (b, t, vs)) (hj : vs[j]? = some x) (hn : noU32 x = true) :
    St w (W.setCell ⟨b, j, none⟩ v) (L.set i (b, t, vs.set j v)) ∧ (L.set i (b, t, vs.set j v))[i]? = some (b, t, vs.set j v) ∧ Hold32 W (W.setCell ⟨b, j, none⟩ v) := by
  have hl : i < L.length := (List.getElem?_eq_some_iff.1 hi).1
  have S1 := S.set i j v hi
  rw [setL_set hi] at S1
  exact ⟨S1, by simp [hl], Hold32.set (S.c i j hi hj) (noU32_is hn) v⟩
theorem set_six (a r : List Value) (x0 x1 x2 x3 x4 x5 v0 v1 v2 v3 v4 v5 : Value) (j : Nat) (hj : a.length = j) : ((((((a ++ x0 :: x1 :: x2 :: x3 :: x4 :: x5 :: r).set j v0).set (j + 1) v1).set (j + 2) v2).set (j + 3) v3).set (j + 4) v4).set (j + 5) v5 = a ++ v0 :: v1 :: v2 :: v3 :: v4 :: v5 :: r := by
  subst hj
  simp only [List.set_append_right _ _ (Nat.le_refl _), List.set_append_right _ _ (Nat.le_add_right _ _), Nat.sub_self, Nat.add_sub_cancel_left]
  rfl
theorem St.putAt6 {w W : World} {L : List (Nat × TypeId × List Value)} (S : St w W L) (i : Nat) (v0 v1 v2 v3 v4 v5 : Value) {b : Nat} {t : TypeId} {vs : List Value} {n j : Nat} (hi : L[i]? = some (b, t, vs ++ zr6 (n + 1))) (hj : vs.length = j) :
    St w ((((((W.setCell ⟨b, j, none⟩ v0).setCell ⟨b, j + 1, none⟩ v1).setCell ⟨b, j + 2, none⟩ v2).setCell ⟨b, j + 3, none⟩ v3).setCell ⟨b, j + 4, none⟩ v4).setCell ⟨b, j + 5, none⟩ v5) (L.set i (b, t, (vs ++ [v0, v1, v2, v3, v4, v5]) ++ zr6 n)) ∧
    Hold32 W ((((((W.setCell ⟨b, j, none⟩ v0).setCell ⟨b, j + 1, none⟩ v1).setCell ⟨b, j + 2, none⟩ v2).setCell ⟨b, j + 3, none⟩ v3).setCell ⟨b, j + 4, none⟩ v4).setCell ⟨b, j + 5, none⟩ v5) := by
  have e0 : vs ++ zr6 (n + 1) = vs ++ .bool false :: .slice none 0 0 :: .int .i64 0 :: .bool false :: .slice none 0 0 :: .int .i64 0 :: zr6 n := rfl
  rw [e0] at hi
  have hget : ∀ k, (vs ++ .bool false :: .slice none 0 0 :: .int .i64 0 :: .bool false :: .slice none 0 0 :: .int .i64 0 :: zr6 n)[j + k]? = (.bool false :: .slice none 0 0 :: .int .i64 0 :: .bool false :: .slice none 0 0 :: .int .i64 0 :: zr6 n)[k]? := fun k => by
    subst hj
    rw [List.getElem?_append_right (by omega), Nat.add_sub_cancel_left]
  obtain ⟨S1, h1, H1⟩ := S.put1 i j v0 hi (by have := hget 0; simpa using this) rfl
  obtain ⟨S2, h2, H2⟩ := S1.put1 i (j + 1) v1 h1 (by rw [List.getElem?_set_ne (by omega)]; exact hget 1) rfl
  obtain ⟨S3, h3, H3⟩ := S2.put1 i (j + 2) v2 h2 (by rw [List.getElem?_set_ne (by omega), List.getElem?_set_ne (by omega)]; exact hget 2) rfl
  obtain ⟨S4, h4, H4⟩ := S3.put1 i (j + 3) v3 h3 (by rw [List.getElem?_set_ne (by omega), List.getElem?_set_ne (by omega), List.getElem?_set_ne (by omega)]; exact hget 3) rfl
  obtain ⟨S5, h5, H5⟩ := S4.put1 i (j + 4) v4 h4 (by rw [List.getElem?_set_ne (by omega), List.getElem?_set_ne (by omega), List.getElem?_set_ne (by omega), List.getElem?_set_ne (by omega)]; exact hget 4) rfl
  obtain ⟨S6, h6, H6⟩ := S5.put1 i (j + 5) v5 h5 (by rw [List.getElem?_set_ne (by omega), List.getElem?_set_ne (by omega), List.getElem?_set_ne (by omega), List.getElem?_set_ne (by omega), List.getElem?_set_ne (by omega)]; exact hget 5) rfl
  rw [set_six vs (zr6 n) _ _ _ _ _ _ v0 v1 v2 v3 v4 v5 j hj] at S6
  simp only [List.set_set] at S6
  refine ⟨?_, ((((H1.trans H2).trans H3).trans H4).trans H5).trans H6⟩
  rw [List.append_assoc]
  exact S6
theorem map_snocRS {F : Rat → Rat × Rat} {xs : List (Rat)} {k : Nat} {x : Rat} (h : xs[k]? = some x) : (xs.map F).take (k + 1) = (xs.map F).take k ++ [F x] := by
  rw [List.take_add_one, List.getElem?_map, h]
  rfl
set_option maxRecDepth 100000 in
set_option maxHeartbeats 4000000 in
theorem vplRS_any {va : Value} {xs : List Rat} {w : World} {Lr Hr : Nat} (ha : Rats w va xs) (n : Nat) (hla : xs.length = n) (hn : n ≤ 1000000) (fid : FuncId) (cp : Value) (F : Rat → Rat × Rat)
    (hcf : ∀ (u : Value) (W : World), Sem.run Tryz.prog (callFunc fid #[u, cp]) W = .ok (.enter fid #[u, cp]) W)
    (hf : ∀ (W : World) (u : Value) (k : Nat) (x : Rat), Below w.heap.size w W → xs[k]? = some x → IsRat W u x → Calls Tryz.prog fid #[u, cp] W fun e w' => (∃ r, e = .returned (.tuple #[r, .int .i64 0]) ∧ IsSp w' r (F x).1 (F x).2 Lr Hr) ∧ Below W.heap.size W w') :
    Calls Tryz.prog 95 #[va, .func (.func fid) #[] #[cp]] w fun e w' => (∃ v, e = .returned (.tuple #[v, .int .i64 0]) ∧ FreshS w w' v (xs.map F) Lr Hr) ∧ Below w.heap.size w w' := by
  have hz : (xs.map F).length = n := by simp [hla]
  obtain ⟨pa, ca, rfl⟩ := ha.form
  rw [hla] at ha ⊢
  have HI := Lib.hid (And.intro ha (And.intro hf (And.intro hz hn)))
  clear ha hf hz
  have S := St.start w
  go_enter Tryz.func95, Tryz.ntmps95
  go_upto_region 2 with (at_make; refine make_spans S rfl _ _ rfl _ _ n rfl rfl ?hL ?hC ?hn (fun w3 S3 hB3 => ?_))
  case hL => rfl
  case hC => rfl
  case hn => omega
  simp only [List.nil_append] at S3
  replace S := S3
  clear S3 hB3; go_wp2_with fail
  go_loopw [15] (fun si wr => ∃ k : Nat, k ≤ n ∧ si = .int .i64 k ∧ ∃ vs, SL wr Lr Hr vs ((xs.map F).take k) ∧ St w wr [(w.heap.size, 29, vs ++ zr6 (n - k))]) (fun si _ => n - (intOf si).toNat)
  case atStart => exact ⟨0, by omega, rfl, [], trivial, S⟩
  case round =>
    clear S
    obtain ⟨k, hk, rfl, vs, hv, S⟩ := hrel
    by_cases hlt : k < n
    · obtain ⟨r, hr⟩ : ∃ r, n - k = r + 1 := ⟨n - k - 1, by omega⟩
      rw [hr] at S
      have hl : vs.length = k * 6 := by rw [hv.len, List.length_take, HI.out.2.2.1]; omega
      obtain ⟨r1, s1, z1, v0, v1, v2, rfl, hr1, hq1, a1_0, a1_1, a1_2, b1, p1, l1, K1, q1, j1, J1, rfl, rfl, rfl, h1, n1, d1⟩ := HI.out.1.get hlt
      replace a1_0 := (S.below.cell (p := ⟨r1, s1 + k * 3, none⟩) hr1).trans a1_0
      replace a1_1 := (S.below.cell (p := ⟨r1, s1 + k * 3 + 1, none⟩) hr1).trans a1_1
      replace a1_2 := (S.below.cell (p := ⟨r1, s1 + k * 3 + 2, none⟩) hr1).trans a1_2
      have HQ := Lib.hid (And.intro hl (And.intro hlt (And.intro hr hq1)))
      have hki : (k : Int) < ((n : Nat) : Int) := by omega
      replace n1 := n1.below S.below (Nat.le_refl _); replace d1 := d1.below S.below (Nat.le_refl _)
      clear hr hlt hl hk hq1 hr1
      go_upto_region 6 with fail
      have H := S.hnew 34 [.bool b1, .slice p1 l1 K1, .slice q1 j1 J1]
      replace S := S.alloc 34 [.bool b1, .slice p1 l1 K1, .slice q1 j1 J1] (wr.heap.size)
      simp only [List.cons_append, List.nil_append] at S
      refine iv3 H hv n1 d1 ?_; clear hv n1 d1; intro hv n1 d1
      clear H a1_0 a1_1 a1_2; obtain ⟨c1_0, c1_1, c1_2⟩ := S.c3 1 rfl
      generalize (wr.alloc (.cells #[.bool b1, .slice p1 l1 K1, .slice q1 j1 J1] 34)) = w1 at S hv n1 d1 c1_0 c1_1 c1_2 ⊢
      go_wp2_with fail
      refine (S.call (HI.out.2.1 _ _ k z1 S.below HQ.out.2.2.2 ⟨b1, p1, l1, K1, q1, j1, J1, rfl, h1, n1, d1⟩)).mono ?_
      rintro e w4 ⟨⟨_, rfl, b9, p9, l9, K9, m9, e9, c9, q9, j9, J9, o9, f9, rfl, h9, n9, x9, g9, d9, y9⟩, S', H⟩
      replace hv := hv.hold H; clear S H n1 d1 h1 c1_0 c1_1 c1_2
      have f0_ := S'.f 0 (k * 6) rfl
      have f1_ := S'.f 0 (k * 6 + 1) rfl
      have f2_ := S'.f 0 (k * 6 + 2) rfl
      have f3_ := S'.f 0 (k * 6 + 3) rfl
      have f4_ := S'.f 0 (k * 6 + 4) rfl
      have f5_ := S'.f 0 (k * 6 + 5) rfl
      obtain ⟨S, H⟩ := S'.putAt6 0 (.bool b9) (.slice p9 l9 K9) (.int .i64 e9) (.bool c9) (.slice q9 j9 J9) (.int .i64 f9) rfl HQ.out.1
      have g0_ := S'.c 0 (k * 6) rfl (v := .bool false) (by rw [← HQ.out.1]; simp [zr6])
      have g1_ := S'.c 0 (k * 6 + 1) rfl (v := .slice none 0 0) (by rw [← HQ.out.1, List.getElem?_append_right (by omega)]; simp [zr6])
      have g2_ := S'.c 0 (k * 6 + 2) rfl (v := .int .i64 0) (by rw [← HQ.out.1, List.getElem?_append_right (by omega)]; simp [zr6])
      have g3_ := S'.c 0 (k * 6 + 3) rfl (v := .bool false) (by rw [← HQ.out.1, List.getElem?_append_right (by omega)]; simp [zr6])
      have g4_ := S'.c 0 (k * 6 + 4) rfl (v := .slice none 0 0) (by rw [← HQ.out.1, List.getElem?_append_right (by omega)]; simp [zr6])
      have g5_ := S'.c 0 (k * 6 + 5) rfl (v := .int .i64 0) (by rw [← HQ.out.1, List.getElem?_append_right (by omega)]; simp [zr6])
      clear S'
      go_upto_region 7 with fail
      have hv2 := (hv.hold32 H).snoc (q := F z1) ⟨b9, p9, l9, K9, m9, e9, c9, q9, j9, J9, o9, f9, rfl, h9, n9.hold32 H, x9, g9, d9.hold32 H, y9⟩
      clear hv H h9 x9 g9 y9 n9 d9 g0_ g1_ g2_ g3_ g4_ g5_ f0_ f1_ f2_ f3_ f4_ f5_
      replace S := S.take 1 rfl
      go_wp2_with fail
      go_roundw
      case rel => exact ⟨k + 1, HQ.out.2.1, by go_num, _, by rw [map_snocRS HQ.out.2.2.2]; exact hv2, by rw [show n - (k + 1) = r by have := HQ.out.2.2.1; omega]; exact S⟩
      case measure => have := HQ.out.2.1; simp [intOf]; omega
    · have hki : ¬ (k : Int) < ((n : Nat) : Int) := by omega
      have hkn : k = n := by omega
      subst hkn
      rw [Nat.sub_self] at S
      rw [List.take_of_length_le (by rw [HI.out.2.2.1]; omega)] at hv
      simp only [zr6, List.append_nil] at S
      clear hlt hk; go_wp2_with fail
      exact bodyPost_ret (v := .tuple #[.slice (some ⟨w.heap.size, 0, none⟩) k k, .int .i64 0]) (by simp [results, Tryz.f95, go_sem]) rfl (⟨⟨_, rfl, _, vs, by rw [HI.out.2.2.1], Nat.le_refl _, (S.locs.get 0 rfl).2, hv⟩, S.below⟩)
set_option maxRecDepth 100000 in
set_option maxHeartbeats 16000000 in
theorem sbetween_any {va vb : Value} {x y : Rat} {w : World} {L H : Nat} (ha : IsD w va x L H) (hb : IsD w vb y L H) :
    Calls Tryz.prog 75 #[va, vb, .int .i64 0] w fun e w' => (∃ u, e = .returned (.tuple #[u, .int .i64 0]) ∧ IsSp w' u x y L H) ∧ Below w.heap.size w w' := by
  obtain ⟨b1, p1, l1, K1, m1, e1, rfl, h1, n1, d1⟩ := ha
  obtain ⟨b2, p2, l2, K2, m2, e2, rfl, h2, n2, d2⟩ := hb
  have S := (((St.start w).alloc 27 [.bool b1, .slice p1 l1 K1, .int .i64 e1] (w.heap.size)).alloc 27 [.bool b2, .slice p2 l2 K2, .int .i64 e2] (w.heap.size + 1)).alloc 29 [.bool false, .slice none 0 0, .int .i64 0, .bool false, .slice none 0 0, .int .i64 0] (w.heap.size + 1 + 1)
  try simp only [List.cons_append, List.nil_append] at S
  replace n1 := n1.hold S.hold; replace n2 := n2.hold S.hold
  obtain ⟨c0_0, c0_1, c0_2⟩ := S.c3 0 rfl; obtain ⟨c1_0, c1_1, c1_2⟩ := S.c3 1 rfl; obtain ⟨c2_0, c2_1, c2_2, c2_3, c2_4, c2_5⟩ := S.c6 2 rfl
  go_enter Tryz.func75, Tryz.ntmps75
  go_upto_region 1 with fail
  clear c0_0 c0_1 c0_2 c1_0 c1_1 c1_2 c2_0 c2_1 c2_2 c2_3 c2_4 c2_5
  generalize (((w.alloc (.cells #[.bool b1, .slice p1 l1 K1, .int .i64 e1] 27)).alloc (.cells #[.bool b2, .slice p2 l2 K2, .int .i64 e2] 27)).alloc (.cells #[.bool false, .slice none 0 0, .int .i64 0, .bool false, .slice none 0 0, .int .i64 0] 29)) = w1 at S n1 n2 ⊢
  obtain ⟨c0_0, c0_1, c0_2⟩ := S.c3 0 rfl; obtain ⟨c1_0, c1_1, c1_2⟩ := S.c3 1 rfl; obtain ⟨c2_0, c2_1, c2_2, c2_3, c2_4, c2_5⟩ := S.c6 2 rfl
  obtain ⟨f2_0, f2_1, f2_2, f2_3, f2_4, f2_5⟩ := S.f6 2 rfl
  have HP := S.put6 2 (.bool b1) (.slice p1 l1 K1) (.int .i64 e1) (.bool b2) (.slice p2 l2 K2) (.int .i64 e2) rfl rfl; have H := HP.2; replace S := HP.1; clear HP
  replace n1 := n1.hold32 H; replace n2 := n2.hold32 H
  clear H; go_wp2_with fail; obtain ⟨d2_0, d2_1, d2_2, d2_3, d2_4, d2_5⟩ := S.c6 2 rfl
  exact bodyPost_ret (v := .tuple #[.agg #[.bool b1, .slice p1 l1 K1, .int .i64 e1, .bool b2, .slice p2 l2 K2, .int .i64 e2], .int .i64 0]) (by simp [results, Tryz.f75, go_sem, d2_0, d2_1, d2_2, d2_3, d2_4, d2_5]) rfl (⟨⟨_, rfl, b1, p1, l1, K1, m1, e1, b2, p2, l2, K2, m2, e2, rfl, h1, n1, d1, h2, n2, d2⟩, S.below⟩)
noncomputable def rq (x : Rat) (n : Nat) (up : Bool) : Rat := open Classical in if h : ∃ p : Int × Int, DyC p.1 p.2 ∧ dq p.1 p.2 = x then rnd h.choose.1 h.choose.2 n up else 0
theorem rq_is {m e : Int} {x : Rat} (n : Nat) (up : Bool) (h : DyC m e) (hx : dq m e = x) : rnd m e n up = rq x n up := by
  have hex : ∃ p : Int × Int, DyC p.1 p.2 ∧ dq p.1 p.2 = x := ⟨(m, e), h, hx⟩
  unfold rq
  rw [dif_pos hex]
  have hc := hex.choose_spec
  obtain ⟨e1, e2⟩ := dyc_uniq h hc.1 (hx.trans hc.2.symm)
  rw [← e1, ← e2]
theorem dround_q {va : Value} {x : Rat} {L H : Nat} {w : World} (hT : Tab w) (ha : IsD w va x L H) (hLH : H + 1 + L ≤ 16384) (n : Nat) (h2 : 2 ≤ n) (h4 : n ≤ 4096) (up : Bool) :
    Calls Tryz.prog 74 #[va, .int .i64 n, .bool up] w fun ev w' => (∃ u, ev = .returned (.tuple #[u, .int .i64 0]) ∧ IsD w' u (rq x n up) L (H + 1)) ∧ Below w.heap.size w w' := by
  obtain ⟨b, p, l, K, m, e, rfl, hb, nm, hd⟩ := ha
  exact dround_any hT hb nm hd hLH n h2 h4 up (rq x n up) (rq_is n up hd.out.1 hd.out.2.2)
set_option maxRecDepth 100000 in
set_option maxHeartbeats 4000000 in
theorem sround_any {va : Value} {x y : Rat} {w : World} {L H : Nat} (hT : Tab w) (ha : IsSp w va x y L H) (hk : H + 1 + L ≤ 16384) (n : Nat) (hn2 : 2 ≤ n) (hn4 : n ≤ 4096) :
    Calls Tryz.prog 17 #[va, .int .i64 n] w fun e w' => (∃ u, e = .returned (.tuple #[u, .int .i64 0]) ∧ IsSp w' u (rq x n false) (rq y n true) L (H + 1)) ∧ Below w.heap.size w w' := by
  obtain ⟨b1, p1, l1, K1, m1, e1, b2, p2, l2, K2, m2, e2, rfl, h1, n1, d1, h2, n2, d2⟩ := ha
  have HK := Lib.hid (And.intro hk (And.intro hn2 (And.intro hn4 hT)))
  clear hk hn2 hn4 hT
  have S := ((St.start w).alloc 29 [.bool b1, .slice p1 l1 K1, .int .i64 e1, .bool b2, .slice p2 l2 K2, .int .i64 e2] (w.heap.size)).alloc 29 [.bool false, .slice none 0 0, .int .i64 0, .bool false, .slice none 0 0, .int .i64 0] (w.heap.size + 1)
  try simp only [List.cons_append, List.nil_append] at S
  replace n1 := n1.hold S.hold; replace n2 := n2.hold S.hold
  obtain ⟨c0_0, c0_1, c0_2, c0_3, c0_4, c0_5⟩ := S.c6 0 rfl; obtain ⟨c1_0, c1_1, c1_2, c1_3, c1_4, c1_5⟩ := S.c6 1 rfl
  go_enter Tryz.func17, Tryz.ntmps17
  go_wp2_with fail; clear c0_0 c0_1 c0_2 c0_3 c0_4 c0_5 c1_0 c1_1 c1_2 c1_3 c1_4 c1_5
  refine (S.call (dround_q (HK.out.2.2.2.below S.below) ⟨b1, p1, l1, K1, m1, e1, rfl, h1, n1, d1⟩ HK.out.1 n HK.out.2.1 HK.out.2.2.1 false)).mono ?_
  clear S
  rintro e w1 ⟨⟨_, rfl, b3, p3, l3, K3, m3, e3, rfl, h3, n3, d3⟩, S, H⟩
  replace n1 := n1.hold H; replace n2 := n2.hold H
  clear H; obtain ⟨c0_0, c0_1, c0_2, c0_3, c0_4, c0_5⟩ := S.c6 0 rfl; obtain ⟨c1_0, c1_1, c1_2, c1_3, c1_4, c1_5⟩ := S.c6 1 rfl
  have H := S.hnew 27 [.bool b3, .slice p3 l3 K3, .int .i64 e3]
  replace S := S.al 27 [.bool b3, .slice p3 l3 K3, .int .i64 e3] (w1.heap.size)
  refine iv3 H n1 n2 n3 ?_; clear n1 n2 n3; intro n1 n2 n3
  clear H; clear c0_0 c0_1 c0_2 c0_3 c0_4 c0_5 c1_0 c1_1 c1_2 c1_3 c1_4 c1_5; obtain ⟨c0_0, c0_1, c0_2, c0_3, c0_4, c0_5⟩ := S.c6 0 rfl; obtain ⟨c1_0, c1_1, c1_2, c1_3, c1_4, c1_5⟩ := S.c6 1 rfl; obtain ⟨c2_0, c2_1, c2_2⟩ := S.c3 2 rfl; go_wp2_with fail; clear c0_0 c0_1 c0_2 c0_3 c0_4 c0_5 c1_0 c1_1 c1_2 c1_3 c1_4 c1_5 c2_0 c2_1 c2_2
  refine (S.call (dround_q (HK.out.2.2.2.below S.below) ⟨b2, p2, l2, K2, m2, e2, rfl, h2, n2, d2⟩ HK.out.1 n HK.out.2.1 HK.out.2.2.1 true)).mono ?_
  clear S
  rintro e w2 ⟨⟨_, rfl, b4, p4, l4, K4, m4, e4, rfl, h4, n4, d4⟩, S, H⟩
  refine iv3 H n1 n2 n3 ?_; clear n1 n2 n3; intro n1 n2 n3
  clear H; obtain ⟨c0_0, c0_1, c0_2, c0_3, c0_4, c0_5⟩ := S.c6 0 rfl; obtain ⟨c1_0, c1_1, c1_2, c1_3, c1_4, c1_5⟩ := S.c6 1 rfl; obtain ⟨c2_0, c2_1, c2_2⟩ := S.c3 2 rfl
  have H := S.hnew 27 [.bool b4, .slice p4 l4 K4, .int .i64 e4]
  replace S := S.al 27 [.bool b4, .slice p4 l4 K4, .int .i64 e4] (w2.heap.size)
  refine iv4 H n1 n2 n3 n4 ?_; clear n1 n2 n3 n4; intro n1 n2 n3 n4
  clear H; clear c0_0 c0_1 c0_2 c0_3 c0_4 c0_5 c1_0 c1_1 c1_2 c1_3 c1_4 c1_5 c2_0 c2_1 c2_2; obtain ⟨c0_0, c0_1, c0_2, c0_3, c0_4, c0_5⟩ := S.c6 0 rfl; obtain ⟨c1_0, c1_1, c1_2, c1_3, c1_4, c1_5⟩ := S.c6 1 rfl; obtain ⟨c2_0, c2_1, c2_2⟩ := S.c3 2 rfl; obtain ⟨c3_0, c3_1, c3_2⟩ := S.c3 3 rfl
  go_upto_region 3 with fail
  clear c0_0 c0_1 c0_2 c0_3 c0_4 c0_5 c1_0 c1_1 c1_2 c1_3 c1_4 c1_5 c2_0 c2_1 c2_2 c3_0 c3_1 c3_2
  generalize (w2.alloc (.cells #[.bool b4, .slice p4 l4 K4, .int .i64 e4] 27)) = w3 at S n1 n2 n3 n4 ⊢
  have HH := (Hold.drew w3).to32
  refine iw4 HH n1 n2 n3 n4 ?_; clear n1 n2 n3 n4; intro n1 n2 n3 n4
  replace S := S.drew
  refine wp_region_held_drew (S := fun W => W.cell? ⟨w1.heap.size, 0, none⟩ = some (.bool b3) ∧ W.cell? ⟨w1.heap.size, 1, none⟩ = some (.slice p3 l3 K3) ∧ W.cell? ⟨w1.heap.size, 2, none⟩ = some (.int .i64 e3) ∧ W.cell? ⟨w2.heap.size, 0, none⟩ = some (.bool b4) ∧ W.cell? ⟨w2.heap.size, 1, none⟩ = some (.slice p4 l4 K4) ∧ W.cell? ⟨w2.heap.size, 2, none⟩ = some (.int .i64 e4)) (by kernel_rfl) (con3 (S.c3 2 rfl) (S.c3 3 rfl)) (fun hS => ?_)
  generalize w3.drew = w4 at S n1 n2 n3 n4 HH hS ⊢
  refine tk 0 hS ?_
  refine tk 1 hS ?_
  refine tk 2 hS ?_
  refine tk 3 hS ?_
  refine rd 4 fun KK hKK => ?_
  go_simp; clear hS
  have H := S.hnew 36 [.int .i64 0, .int .i64 0]
  replace S := S.al 36 [.int .i64 0, .int .i64 0] (w4.heap.size)
  refine iv4 H n1 n2 n3 n4 ?_; clear n1 n2 n3 n4; intro n1 n2 n3 n4; replace HH := HH.trans H.to32; clear H
  refine ho hKK (con3 (S.c3 2 rfl) (S.c3 3 rfl)) fun hS => ?_
  generalize (w4.alloc (.cells #[.int .i64 0, .int .i64 0] 36)) = w5 at S n1 n2 n3 n4 HH hS ⊢
  clear hKK KK
  refine rd 5 fun KK hKK => ?_
  go_simp; clear hS
  refine (S.call (or_two S 4 rfl)).mono ?_
  clear S
  rintro e w6 ⟨rfl, S, H⟩
  refine iv4 H n1 n2 n3 n4 ?_; clear n1 n2 n3 n4; intro n1 n2 n3 n4; replace HH := HH.trans H.to32; clear H
  go_wp2_with fail
  refine ho hKK (con3 (S.c3 2 rfl) (S.c3 3 rfl)) fun hS => ?_
  clear hKK KK
  refine rd 6 fun KK hKK => ?_
  go_simp; clear hS
  refine (S.call (sbetween_any ⟨b3, p3, l3, K3, m3, e3, rfl, h3, n3, d3⟩ ⟨b4, p4, l4, K4, m4, e4, rfl, h4, n4, d4⟩)).mono ?_
  clear S
  rintro e w7 ⟨⟨_, rfl, b5, p5, l5, K5, m5, e5, b6, p6, l6, K6, m6, e6, rfl, h5, n5, d5, h6, n6, d6⟩, S, H⟩
  refine iv4 H n1 n2 n3 n4 ?_; clear n1 n2 n3 n4; intro n1 n2 n3 n4; replace HH := HH.trans H.to32; clear H
  go_wp2_with fail
  refine ho hKK (con3 (S.c3 2 rfl) (S.c3 3 rfl)) fun hS => ?_
  clear hKK KK
  refine tk 7 hS ?_
  refine tk 8 hS ?_
  refine rd 9 fun KK hKK => ?_
  obtain ⟨c0, c1, c2, c3, c4, c5⟩ := S.c6 1 rfl; obtain ⟨f0, f1, f2, f3, f4, f5⟩ := S.f6 1 rfl
  go_simp; clear hS c0 f0 c1 f1 c2 f2 c3 f3 c4 f4 c5 f5
  have HP := S.put6 1 (.bool b5) (.slice p5 l5 K5) (.int .i64 e5) (.bool b6) (.slice p6 l6 K6) (.int .i64 e6) rfl rfl; have H := HP.2; replace S := HP.1; clear HP
  refine iw6 H n1 n2 n3 n4 n5 n6 ?_; clear n1 n2 n3 n4 n5 n6; intro n1 n2 n3 n4 n5 n6; replace HH := HH.trans H; clear H
  refine ho hKK (con3 (S.c3 2 rfl) (S.c3 3 rfl)) fun hS => ?_
  generalize ((((((w7.setCell ⟨w.heap.size + 1, 0, none⟩ (.bool b5)).setCell ⟨w.heap.size + 1, 1, none⟩ (.slice p5 l5 K5)).setCell ⟨w.heap.size + 1, 2, none⟩ (.int .i64 e5)).setCell ⟨w.heap.size + 1, 3, none⟩ (.bool b6)).setCell ⟨w.heap.size + 1, 4, none⟩ (.slice p6 l6 K6)).setCell ⟨w.heap.size + 1, 5, none⟩ (.int .i64 e6)) = w8 at S n1 n2 n3 n4 n5 n6 HH hS ⊢
  clear hKK KK
  refine rd 10 fun KK hKK => ?_
  go_simp
  refine ho hKK hS fun hS => ?_
  clear hKK KK
  refine wpAnyH_done (by kernel_rfl) ?_ _
  clear hS HH; obtain ⟨c0_0, c0_1, c0_2, c0_3, c0_4, c0_5⟩ := S.c6 0 rfl; obtain ⟨c1_0, c1_1, c1_2, c1_3, c1_4, c1_5⟩ := S.c6 1 rfl; obtain ⟨c2_0, c2_1, c2_2⟩ := S.c3 2 rfl; obtain ⟨c3_0, c3_1, c3_2⟩ := S.c3 3 rfl; go_wp2_with fail; obtain ⟨d1_0, d1_1, d1_2, d1_3, d1_4, d1_5⟩ := S.c6 1 rfl
  exact bodyPost_ret (v := .tuple #[.agg #[.bool b5, .slice p5 l5 K5, .int .i64 e5, .bool b6, .slice p6 l6 K6, .int .i64 e6], .int .i64 0]) (by simp [results, Tryz.f17, go_sem, d1_0, d1_1, d1_2, d1_3, d1_4, d1_5]) rfl (⟨⟨_, rfl, b5, p5, l5, K5, m5, e5, b6, p6, l6, K6, m6, e6, rfl, h5, n5, d5, h6, n6, d6⟩, S.below⟩)
set_option maxRecDepth 100000 in
set_option maxHeartbeats 4000000 in
theorem sadd_any {va vb : Value} {x y u v : Rat} {w : World} {L H : Nat} (hT : Tab w) (ha : IsSp w va x y L H) (hb : IsSp w vb u v L H) (hk : H + 2 + L ≤ 16384) (n : Nat) (hn2 : 2 ≤ n) (hn4 : n ≤ 4096) :
    Calls Tryz.prog 14 #[va, vb, .int .i64 n] w fun e w' => (∃ z, e = .returned (.tuple #[z, .int .i64 0]) ∧ IsSp w' z (rq (x + u) n false) (rq (y + v) n true) L (H + 2)) ∧ Below w.heap.size w w' := by
  obtain ⟨b1, p1, l1, K1, m1, e1, b2, p2, l2, K2, m2, e2, rfl, h1, n1, d1, h2, n2, d2⟩ := ha
  obtain ⟨b3, p3, l3, K3, m3, e3, b4, p4, l4, K4, m4, e4, rfl, h3, n3, d3, h4, n4, d4⟩ := hb
  have HK := Lib.hid (And.intro (show H + 1 + L ≤ 16384 by omega) (And.intro hn2 (And.intro hn4 (And.intro hT (show H + 1 + 1 + L ≤ 16384 by omega)))))
  clear hk hn2 hn4 hT
  have S := (((St.start w).alloc 29 [.bool b1, .slice p1 l1 K1, .int .i64 e1, .bool b2, .slice p2 l2 K2, .int .i64 e2] (w.heap.size)).alloc 29 [.bool b3, .slice p3 l3 K3, .int .i64 e3, .bool b4, .slice p4 l4 K4, .int .i64 e4] (w.heap.size + 1)).alloc 29 [.bool false, .slice none 0 0, .int .i64 0, .bool false, .slice none 0 0, .int .i64 0] (w.heap.size + 1 + 1)
  try simp only [List.cons_append, List.nil_append] at S
  refine iv4 S.hold n1 n2 n3 n4 ?_; clear n1 n2 n3 n4; intro n1 n2 n3 n4
  obtain ⟨c0_0, c0_1, c0_2, c0_3, c0_4, c0_5⟩ := S.c6 0 rfl; obtain ⟨c1_0, c1_1, c1_2, c1_3, c1_4, c1_5⟩ := S.c6 1 rfl; obtain ⟨c2_0, c2_1, c2_2, c2_3, c2_4, c2_5⟩ := S.c6 2 rfl
  go_enter Tryz.func14, Tryz.ntmps14
  go_wp2_with fail; clear c0_0 c0_1 c0_2 c0_3 c0_4 c0_5 c1_0 c1_1 c1_2 c1_3 c1_4 c1_5 c2_0 c2_1 c2_2 c2_3 c2_4 c2_5
  refine (S.call (dadd_any (HK.out.2.2.2.1.below S.below) ⟨b1, p1, l1, K1, m1, e1, rfl, h1, n1, d1⟩ ⟨b3, p3, l3, K3, m3, e3, rfl, h3, n3, d3⟩ HK.out.1 (x + u) rfl)).mono ?_
  clear S
  rintro e w1 ⟨⟨_, rfl, b5, p5, l5, K5, m5, e5, rfl, h5, n5, d5⟩, S, H⟩
  refine iv4 H n1 n2 n3 n4 ?_; clear n1 n2 n3 n4; intro n1 n2 n3 n4
  clear H; obtain ⟨c0_0, c0_1, c0_2, c0_3, c0_4, c0_5⟩ := S.c6 0 rfl; obtain ⟨c1_0, c1_1, c1_2, c1_3, c1_4, c1_5⟩ := S.c6 1 rfl; obtain ⟨c2_0, c2_1, c2_2, c2_3, c2_4, c2_5⟩ := S.c6 2 rfl
  have H := S.hnew 27 [.bool b5, .slice p5 l5 K5, .int .i64 e5]
  replace S := S.al 27 [.bool b5, .slice p5 l5 K5, .int .i64 e5] (w1.heap.size)
  refine iv5 H n1 n2 n3 n4 n5 ?_; clear n1 n2 n3 n4 n5; intro n1 n2 n3 n4 n5
  clear H; clear c0_0 c0_1 c0_2 c0_3 c0_4 c0_5 c1_0 c1_1 c1_2 c1_3 c1_4 c1_5 c2_0 c2_1 c2_2 c2_3 c2_4 c2_5; obtain ⟨c0_0, c0_1, c0_2, c0_3, c0_4, c0_5⟩ := S.c6 0 rfl; obtain ⟨c1_0, c1_1, c1_2, c1_3, c1_4, c1_5⟩ := S.c6 1 rfl; obtain ⟨c2_0, c2_1, c2_2, c2_3, c2_4, c2_5⟩ := S.c6 2 rfl; obtain ⟨c3_0, c3_1, c3_2⟩ := S.c3 3 rfl; go_wp2_with fail; clear c0_0 c0_1 c0_2 c0_3 c0_4 c0_5 c1_0 c1_1 c1_2 c1_3 c1_4 c1_5 c2_0 c2_1 c2_2 c2_3 c2_4 c2_5 c3_0 c3_1 c3_2
  refine (S.call (dadd_any (HK.out.2.2.2.1.below S.below) ⟨b2, p2, l2, K2, m2, e2, rfl, h2, n2, d2⟩ ⟨b4, p4, l4, K4, m4, e4, rfl, h4, n4, d4⟩ HK.out.1 (y + v) rfl)).mono ?_
  clear S
  rintro e w2 ⟨⟨_, rfl, b6, p6, l6, K6, m6, e6, rfl, h6, n6, d6⟩, S, H⟩
  refine iv5 H n1 n2 n3 n4 n5 ?_; clear n1 n2 n3 n4 n5; intro n1 n2 n3 n4 n5
  clear H; obtain ⟨c0_0, c0_1, c0_2, c0_3, c0_4, c0_5⟩ := S.c6 0 rfl; obtain ⟨c1_0, c1_1, c1_2, c1_3, c1_4, c1_5⟩ := S.c6 1 rfl; obtain ⟨c2_0, c2_1, c2_2, c2_3, c2_4, c2_5⟩ := S.c6 2 rfl; obtain ⟨c3_0, c3_1, c3_2⟩ := S.c3 3 rfl
  have H := S.hnew 27 [.bool b6, .slice p6 l6 K6, .int .i64 e6]
  replace S := S.al 27 [.bool b6, .slice p6 l6 K6, .int .i64 e6] (w2.heap.size)
  refine iv6 H n1 n2 n3 n4 n5 n6 ?_; clear n1 n2 n3 n4 n5 n6; intro n1 n2 n3 n4 n5 n6
  clear H; clear c0_0 c0_1 c0_2 c0_3 c0_4 c0_5 c1_0 c1_1 c1_2 c1_3 c1_4 c1_5 c2_0 c2_1 c2_2 c2_3 c2_4 c2_5 c3_0 c3_1 c3_2; obtain ⟨c3_0, c3_1, c3_2⟩ := S.c3 3 rfl; obtain ⟨c4_0, c4_1, c4_2⟩ := S.c3 4 rfl
  have H := S.hnew 36 [.int .i64 0, .int .i64 0]
  replace S := S.al 36 [.int .i64 0, .int .i64 0] (w2.heap.size + 1)
  refine iv6 H n1 n2 n3 n4 n5 n6 ?_; clear n1 n2 n3 n4 n5 n6; intro n1 n2 n3 n4 n5 n6
  clear H; go_wp2_with fail; clear c3_0 c3_1 c3_2 c4_0 c4_1 c4_2
  refine (S.call (or_two S 5 rfl)).mono ?_
  clear S
  rintro e w3 ⟨rfl, S, H⟩
  refine iv6 H n1 n2 n3 n4 n5 n6 ?_; clear n1 n2 n3 n4 n5 n6; intro n1 n2 n3 n4 n5 n6
  clear H; obtain ⟨c3_0, c3_1, c3_2⟩ := S.c3 3 rfl; obtain ⟨c4_0, c4_1, c4_2⟩ := S.c3 4 rfl; go_wp2_with fail; clear c3_0 c3_1 c3_2 c4_0 c4_1 c4_2
  refine (S.call (sround_any (HK.out.2.2.2.1.below S.below) ⟨b5, p5, l5, K5, m5, e5, b6, p6, l6, K6, m6, e6, rfl, h5, n5, d5, h6, n6, d6⟩ HK.out.2.2.2.2 n HK.out.2.1 HK.out.2.2.1)).mono ?_
  clear S
  rintro e w4 ⟨⟨_, rfl, b7, p7, l7, K7, m7, e7, b8, p8, l8, K8, m8, e8, rfl, h7, n7, d7, h8, n8, d8⟩, S, H⟩
  refine iv6 H n1 n2 n3 n4 n5 n6 ?_; clear n1 n2 n3 n4 n5 n6; intro n1 n2 n3 n4 n5 n6
  clear H; obtain ⟨c3_0, c3_1, c3_2⟩ := S.c3 3 rfl; obtain ⟨c4_0, c4_1, c4_2⟩ := S.c3 4 rfl; clear c3_0 c3_1 c3_2 c4_0 c4_1 c4_2; obtain ⟨c2_0, c2_1, c2_2, c2_3, c2_4, c2_5⟩ := S.c6 2 rfl
  obtain ⟨f2_0, f2_1, f2_2, f2_3, f2_4, f2_5⟩ := S.f6 2 rfl
  have HP := S.put6 2 (.bool b7) (.slice p7 l7 K7) (.int .i64 e7) (.bool b8) (.slice p8 l8 K8) (.int .i64 e8) rfl rfl; have H := HP.2; replace S := HP.1; clear HP
  refine iw8 H n1 n2 n3 n4 n5 n6 n7 n8 ?_; clear n1 n2 n3 n4 n5 n6 n7 n8; intro n1 n2 n3 n4 n5 n6 n7 n8
  clear H; go_wp2_with fail; obtain ⟨d2_0, d2_1, d2_2, d2_3, d2_4, d2_5⟩ := S.c6 2 rfl
  exact bodyPost_ret (v := .tuple #[.agg #[.bool b7, .slice p7 l7 K7, .int .i64 e7, .bool b8, .slice p8 l8 K8, .int .i64 e8], .int .i64 0]) (by simp [results, Tryz.f14, go_sem, d2_0, d2_1, d2_2, d2_3, d2_4, d2_5]) rfl (⟨⟨_, rfl, b7, p7, l7, K7, m7, e7, b8, p8, l8, K8, m8, e8, rfl, h7, n7, d7, h8, n8, d8⟩, S.below⟩)
end Go.Proofs.YtcfgefbkeeedgaaGreatDoor
