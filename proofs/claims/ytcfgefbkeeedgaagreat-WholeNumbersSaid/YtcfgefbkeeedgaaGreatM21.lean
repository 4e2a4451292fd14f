/-
  What the statement stands on.
-/
import Derived.Test.YtcfgefbkeeedgaaGreatM19
import Derived.Test.YtcfgefbkeeedgaaGreatM20
namespace Go.Proofs.YtcfgefbkeeedgaaGreat
open Go.RowKit
theorem or_two {g : Nat} {w W : World} {L : List (Nat × TypeId × List Value)} (S : St w W L) (i : Nat) {t : TypeId} (hi : L[i]? = some (g, t, [.int .i64 0, .int .i64 0])) :
    Calls Tryz.prog 16 #[.slice (some ⟨g, 0, none⟩) 2 2] W fun e w' => e = .returned (.int .i64 0) ∧ Below W.heap.size W w' :=
  or_zero g 2 W (S.lt i hi) (by decide) fun j hj => by
    match j, hj with
    | 0, _ => exact S.c i 0 hi rfl
    | 1, _ => exact S.c i 1 hi rfl
set_option maxRecDepth 100000 in
set_option maxHeartbeats 4000000 in
theorem cross_any {va vb : Value} {x y : Rat} {w : World} (ha : IsRat w va x) (hb : IsRat w vb y) (h1 : x.num.natAbs < maxN) (h2 : x.den < maxN) (h3 : y.num.natAbs < maxN) (h4 : y.den < maxN) (X Y : Int) (hX : x.num * y.den = X) (hY : y.num * x.den = Y) (hx : X.natAbs < maxN) (hy : Y.natAbs < maxN) :
    Calls Tryz.prog 51 #[va, vb] w fun e w' => (∃ u v, e = .returned (.tuple #[u, v, .int .i64 0]) ∧ IsInt w' u X ∧ IsInt w' v Y) ∧ Below w.heap.size w w' := by
  obtain ⟨b1, p1, l1, K1, q1, j1, J1, rfl, hb1, n1, d1⟩ := ha
  obtain ⟨b2, p2, l2, K2, q2, j2, J2, rfl, hb2, n2, d2⟩ := hb
  have HD := Lib.hid (And.intro h1 (And.intro h2 (And.intro h3 (And.intro h4 (And.intro hX (And.intro hY (And.intro hx hy)))))))
  clear h1 h2 h3 h4 hX hY hx hy
  have S := ((((St.start w).alloc 39 [.bool b1, .slice p1 l1 K1, .slice q1 j1 J1] (w.heap.size)).alloc 39 [.bool b2, .slice p2 l2 K2, .slice q2 j2 J2] (w.heap.size + 1)).alloc 37 [.bool false, .slice none 0 0] (w.heap.size + 1 + 1)).alloc 37 [.bool false, .slice none 0 0] (w.heap.size + 1 + 1 + 1)
  try simp only [List.cons_append, List.nil_append] at S
  refine iv4 S.hold n1 d1 n2 d2 ?_; clear n1 d1 n2 d2; intro n1 d1 n2 d2
  obtain ⟨c0_0, c0_1, c0_2⟩ := S.c3 0 rfl; obtain ⟨c1_0, c1_1, c1_2⟩ := S.c3 1 rfl; have c2_0 := S.c 2 0 rfl rfl; have c2_1 := S.c 2 1 rfl rfl; have c3_0 := S.c 3 0 rfl rfl; have c3_1 := S.c 3 1 rfl rfl
  go_enter Tryz.func51, Tryz.ntmps51
  go_upto_region 1 with fail
  clear c0_0 c0_1 c0_2 c1_0 c1_1 c1_2 c2_0 c2_1 c3_0 c3_1
  generalize ((((w.alloc (.cells #[.bool b1, .slice p1 l1 K1, .slice q1 j1 J1] 39)).alloc (.cells #[.bool b2, .slice p2 l2 K2, .slice q2 j2 J2] 39)).alloc (.cells #[.bool false, .slice none 0 0] 37)).alloc (.cells #[.bool false, .slice none 0 0] 37)) = w1 at S n1 d1 n2 d2 ⊢
  go_cut [7, 8] (fun s7 s8 wx => ∃ g7 p l K, s7 = .pointer (some ⟨g7, 0, none⟩) ∧ s8 = .int .i64 0 ∧ St w wx [(w.heap.size, 39, [.bool b1, .slice p1 l1 K1, .slice q1 j1 J1]), (w.heap.size + 1, 39, [.bool b2, .slice p2 l2 K2, .slice q2 j2 J2]), (w.heap.size + 1 + 1, 37, [.bool false, .slice none 0 0]), (w.heap.size + 1 + 1 + 1, 37, [.bool false, .slice none 0 0]), (g7, 37, [.bool (negB X), .slice p l K])] ∧ IsNat wx (.slice p l K) X.natAbs ∧ Hold w1 wx)
  case first =>
    have HH := Hold.drew w1
    refine iv4 HH n1 d1 n2 d2 ?_; clear n1 d1 n2 d2; intro n1 d1 n2 d2
    replace S := S.drew
    refine wp_region_held_drew (S := fun W => W.cell? ⟨w.heap.size, 0, none⟩ = some (.bool b1) ∧ W.cell? ⟨w.heap.size, 1, none⟩ = some (.slice p1 l1 K1) ∧ W.cell? ⟨w.heap.size + 1, 2, none⟩ = some (.slice q2 j2 J2)) (by kernel_rfl) ⟨(S.c 0 0 rfl rfl), ⟨(S.c 0 1 rfl rfl), (S.c 1 2 rfl rfl)⟩⟩ (fun hS => ?_)
    generalize w1.drew = w2 at S n1 d1 n2 d2 HH hS ⊢
    refine tk 0 hS ?_
    refine tk 1 hS ?_
    refine tk 2 hS ?_
    refine tk 3 hS ?_
    refine wpAnyH_ready (rs := [4, 9]) (by kernel_rfl) (by simp) (AllReadyH.cons (opOf rfl) (fun KK hKK => ?_) (AllReadyH.cons (opOf rfl) (fun KK hKK => ?_) AllReadyH.nil))
    ·
      go_simp; clear hS
      refine (S.call (wnat_any d2 HD.out.2.2.2.1 (y.den : Int) rfl)).mono ?_
      clear S
      rintro e w3 ⟨⟨_, rfl, pn, ln, Kn, rfl, nn⟩, S, H⟩
      refine iv4 H n1 d1 n2 d2 ?_; clear n1 d1 n2 d2; intro n1 d1 n2 d2; replace HH := HH.trans H; clear H
      go_wp2_with fail
      refine ho hKK ⟨(S.c 0 0 rfl rfl), ⟨(S.c 0 1 rfl rfl), (S.c 1 2 rfl rfl)⟩⟩ fun hS => ?_
      clear hKK KK
      refine wpAnyH_ready (rs := [5, 9]) (by kernel_rfl) (by simp) (AllReadyH.cons (opOf rfl) (fun KK hKK => ?_) (AllReadyH.cons (opOf rfl) (fun KK hKK => ?_) AllReadyH.nil))
      ·
        go_simp; clear hS
        refine (S.call (wmul_to ⟨_, _, _, by rw [hb1.out], n1⟩ ⟨_, _, _, rfl, nn⟩ HD.out.1 HD.out.2.2.2.1 X HD.out.2.2.2.2.1 HD.out.2.2.2.2.2.2.1)).mono ?_
        clear S
        rintro e w4 ⟨⟨_, rfl, p, l, K, rfl, nx⟩, S, H⟩
        refine iv5 H n1 d1 n2 d2 nn ?_; clear n1 d1 n2 d2 nn; intro n1 d1 n2 d2 nn; replace HH := HH.trans H; clear H
        go_wp2_with fail
        refine ho hKK ⟨(S.c 0 0 rfl rfl), ⟨(S.c 0 1 rfl rfl), (S.c 1 2 rfl rfl)⟩⟩ fun hS => ?_
        clear hKK KK
        refine tk 6 hS ?_
        refine tk 7 hS ?_
        refine tk 8 hS ?_
        refine rd 9 fun KK hKK => ?_
        go_simp; clear hS
        have H := S.hnew 37 [.bool false, .slice none 0 0]
        replace S := S.al 37 [.bool false, .slice none 0 0] (w4.heap.size)
        refine iv6 H n1 d1 n2 d2 nn nx ?_; clear n1 d1 n2 d2 nn nx; intro n1 d1 n2 d2 nn nx; replace HH := HH.trans H; clear H
        refine ho hKK ⟨(S.c 0 0 rfl rfl), ⟨(S.c 0 1 rfl rfl), (S.c 1 2 rfl rfl)⟩⟩ fun hS => ?_
        generalize (w4.alloc (.cells #[.bool false, .slice none 0 0] 37)) = w5 at S n1 d1 n2 d2 nn nx HH hS ⊢
        clear hKK KK
        refine rd 10 fun KK hKK => ?_
        have c0 := S.c 4 0 rfl rfl; have f0 := S.f 4 0 rfl; have c1 := S.c 4 1 rfl rfl; have f1 := S.f 4 1 rfl; go_simp; clear hS c0 f0 c1 f1
        have H := S.hset 4 0 (.bool (negB X)) rfl rfl (by intro q n e; cases e)
        replace S := S.set 4 0 (.bool (negB X)) rfl
        refine iv6 H n1 d1 n2 d2 nn nx ?_; clear n1 d1 n2 d2 nn nx; intro n1 d1 n2 d2 nn nx; replace HH := HH.trans H; clear H
        have H := S.hset 4 1 (.slice p l K) rfl rfl (by intro q n e; cases e)
        replace S := S.set 4 1 (.slice p l K) rfl
        refine iv6 H n1 d1 n2 d2 nn nx ?_; clear n1 d1 n2 d2 nn nx; intro n1 d1 n2 d2 nn nx; replace HH := HH.trans H; clear H
        refine ho hKK ⟨(S.c 0 0 rfl rfl), ⟨(S.c 0 1 rfl rfl), (S.c 1 2 rfl rfl)⟩⟩ fun hS => ?_
        generalize ((w5.setCell ⟨w4.heap.size, 0, none⟩ (.bool (negB X))).setCell ⟨w4.heap.size, 1, none⟩ (.slice p l K)) = w6 at S n1 d1 n2 d2 nn nx HH hS ⊢
        clear hKK KK
        refine rd 11 fun KK hKK => ?_
        go_simp
        refine ho hKK hS fun hS => ?_
        clear hKK KK
        refine wpAnyH_done (by kernel_rfl) ?_ _
        go_wp2_with fail
        go_meet
        case rel => exact ⟨w4.heap.size, p, l, K, rfl, rfl, S, nx, HH⟩
      ·
        go_simp; clear hS
        have H := S.hnew 37 [.bool false, .slice none 0 0]
        replace S := S.al 37 [.bool false, .slice none 0 0] (w3.heap.size)
        refine iv5 H n1 d1 n2 d2 nn ?_; clear n1 d1 n2 d2 nn; intro n1 d1 n2 d2 nn; replace HH := HH.trans H; clear H
        refine ho hKK ⟨(S.c 0 0 rfl rfl), ⟨(S.c 0 1 rfl rfl), (S.c 1 2 rfl rfl)⟩⟩ fun hS => ?_
        generalize (w3.alloc (.cells #[.bool false, .slice none 0 0] 37)) = w7 at S n1 d1 n2 d2 nn HH hS ⊢
        clear hKK KK
        refine rd 5 fun KK hKK => ?_
        go_simp; clear hS
        refine (S.call (wmul_to ⟨_, _, _, by rw [hb1.out], n1⟩ ⟨_, _, _, rfl, nn⟩ HD.out.1 HD.out.2.2.2.1 X HD.out.2.2.2.2.1 HD.out.2.2.2.2.2.2.1)).mono ?_
        clear S
        rintro e w8 ⟨⟨_, rfl, p, l, K, rfl, nx⟩, S, H⟩
        refine iv5 H n1 d1 n2 d2 nn ?_; clear n1 d1 n2 d2 nn; intro n1 d1 n2 d2 nn; replace HH := HH.trans H; clear H
        go_wp2_with fail
        refine ho hKK ⟨(S.c 0 0 rfl rfl), ⟨(S.c 0 1 rfl rfl), (S.c 1 2 rfl rfl)⟩⟩ fun hS => ?_
        clear hKK KK
        refine tk 6 hS ?_
        refine tk 7 hS ?_
        refine tk 8 hS ?_
        refine rd 10 fun KK hKK => ?_
        have c0 := S.c 4 0 rfl rfl; have f0 := S.f 4 0 rfl; have c1 := S.c 4 1 rfl rfl; have f1 := S.f 4 1 rfl; go_simp; clear hS c0 f0 c1 f1
        have H := S.hset 4 0 (.bool (negB X)) rfl rfl (by intro q n e; cases e)
        replace S := S.set 4 0 (.bool (negB X)) rfl
        refine iv6 H n1 d1 n2 d2 nn nx ?_; clear n1 d1 n2 d2 nn nx; intro n1 d1 n2 d2 nn nx; replace HH := HH.trans H; clear H
        have H := S.hset 4 1 (.slice p l K) rfl rfl (by intro q n e; cases e)
        replace S := S.set 4 1 (.slice p l K) rfl
        refine iv6 H n1 d1 n2 d2 nn nx ?_; clear n1 d1 n2 d2 nn nx; intro n1 d1 n2 d2 nn nx; replace HH := HH.trans H; clear H
        refine ho hKK ⟨(S.c 0 0 rfl rfl), ⟨(S.c 0 1 rfl rfl), (S.c 1 2 rfl rfl)⟩⟩ fun hS => ?_
        generalize ((w8.setCell ⟨w3.heap.size, 0, none⟩ (.bool (negB X))).setCell ⟨w3.heap.size, 1, none⟩ (.slice p l K)) = w9 at S n1 d1 n2 d2 nn nx HH hS ⊢
        clear hKK KK
        refine rd 11 fun KK hKK => ?_
        go_simp
        refine ho hKK hS fun hS => ?_
        clear hKK KK
        refine wpAnyH_done (by kernel_rfl) ?_ _
        go_wp2_with fail
        go_meet
        case rel => exact ⟨w3.heap.size, p, l, K, rfl, rfl, S, nx, HH⟩
    ·
      go_simp; clear hS
      have H := S.hnew 37 [.bool false, .slice none 0 0]
      replace S := S.al 37 [.bool false, .slice none 0 0] (w2.heap.size)
      refine iv4 H n1 d1 n2 d2 ?_; clear n1 d1 n2 d2; intro n1 d1 n2 d2; replace HH := HH.trans H; clear H
      refine ho hKK ⟨(S.c 0 0 rfl rfl), ⟨(S.c 0 1 rfl rfl), (S.c 1 2 rfl rfl)⟩⟩ fun hS => ?_
      generalize (w2.alloc (.cells #[.bool false, .slice none 0 0] 37)) = w10 at S n1 d1 n2 d2 HH hS ⊢
      clear hKK KK
      refine rd 4 fun KK hKK => ?_
      go_simp; clear hS
      refine (S.call (wnat_any d2 HD.out.2.2.2.1 (y.den : Int) rfl)).mono ?_
      clear S
      rintro e w11 ⟨⟨_, rfl, pn, ln, Kn, rfl, nn⟩, S, H⟩
      refine iv4 H n1 d1 n2 d2 ?_; clear n1 d1 n2 d2; intro n1 d1 n2 d2; replace HH := HH.trans H; clear H
      go_wp2_with fail
      refine ho hKK ⟨(S.c 0 0 rfl rfl), ⟨(S.c 0 1 rfl rfl), (S.c 1 2 rfl rfl)⟩⟩ fun hS => ?_
      clear hKK KK
      refine rd 5 fun KK hKK => ?_
      go_simp; clear hS
      refine (S.call (wmul_to ⟨_, _, _, by rw [hb1.out], n1⟩ ⟨_, _, _, rfl, nn⟩ HD.out.1 HD.out.2.2.2.1 X HD.out.2.2.2.2.1 HD.out.2.2.2.2.2.2.1)).mono ?_
      clear S
      rintro e w12 ⟨⟨_, rfl, p, l, K, rfl, nx⟩, S, H⟩
      refine iv5 H n1 d1 n2 d2 nn ?_; clear n1 d1 n2 d2 nn; intro n1 d1 n2 d2 nn; replace HH := HH.trans H; clear H
      go_wp2_with fail
      refine ho hKK ⟨(S.c 0 0 rfl rfl), ⟨(S.c 0 1 rfl rfl), (S.c 1 2 rfl rfl)⟩⟩ fun hS => ?_
      clear hKK KK
      refine tk 6 hS ?_
      refine tk 7 hS ?_
      refine tk 8 hS ?_
      refine rd 10 fun KK hKK => ?_
      have c0 := S.c 4 0 rfl rfl; have f0 := S.f 4 0 rfl; have c1 := S.c 4 1 rfl rfl; have f1 := S.f 4 1 rfl; go_simp; clear hS c0 f0 c1 f1
      have H := S.hset 4 0 (.bool (negB X)) rfl rfl (by intro q n e; cases e)
      replace S := S.set 4 0 (.bool (negB X)) rfl
      refine iv6 H n1 d1 n2 d2 nn nx ?_; clear n1 d1 n2 d2 nn nx; intro n1 d1 n2 d2 nn nx; replace HH := HH.trans H; clear H
      have H := S.hset 4 1 (.slice p l K) rfl rfl (by intro q n e; cases e)
      replace S := S.set 4 1 (.slice p l K) rfl
      refine iv6 H n1 d1 n2 d2 nn nx ?_; clear n1 d1 n2 d2 nn nx; intro n1 d1 n2 d2 nn nx; replace HH := HH.trans H; clear H
      refine ho hKK ⟨(S.c 0 0 rfl rfl), ⟨(S.c 0 1 rfl rfl), (S.c 1 2 rfl rfl)⟩⟩ fun hS => ?_
      generalize ((w12.setCell ⟨w2.heap.size, 0, none⟩ (.bool (negB X))).setCell ⟨w2.heap.size, 1, none⟩ (.slice p l K)) = w13 at S n1 d1 n2 d2 nn nx HH hS ⊢
      clear hKK KK
      refine rd 11 fun KK hKK => ?_
      go_simp
      refine ho hKK hS fun hS => ?_
      clear hKK KK
      refine wpAnyH_done (by kernel_rfl) ?_ _
      go_wp2_with fail
      go_meet
      case rel => exact ⟨w2.heap.size, p, l, K, rfl, rfl, S, nx, HH⟩
  case rest =>
    obtain ⟨g7, p, l, K, rfl, rfl, S, nx, HH⟩ := hcut
    obtain ⟨w14, rfl⟩ : ∃ W : World, W = wc := ⟨_, rfl⟩
    refine iv4 HH n1 d1 n2 d2 ?_; clear n1 d1 n2 d2; intro n1 d1 n2 d2; clear HH; obtain ⟨c0_0, c0_1, c0_2⟩ := S.c3 0 rfl; obtain ⟨c1_0, c1_1, c1_2⟩ := S.c3 1 rfl; have c2_0 := S.c 2 0 rfl rfl; have c2_1 := S.c 2 1 rfl rfl; have c3_0 := S.c 3 0 rfl rfl; have c3_1 := S.c 3 1 rfl rfl; have c4_0 := S.c 4 0 rfl rfl; have c4_1 := S.c 4 1 rfl rfl
    go_upto_region 2 with fail
    clear c0_0 c0_1 c0_2 c1_0 c1_1 c1_2 c2_0 c2_1 c3_0 c3_1 c4_0 c4_1
    go_cut [9, 10] (fun s9 s10 wx => ∃ g9 pb lb Kb, s9 = .pointer (some ⟨g9, 0, none⟩) ∧ s10 = .int .i64 0 ∧ St w wx [(w.heap.size, 39, [.bool b1, .slice p1 l1 K1, .slice q1 j1 J1]), (w.heap.size + 1, 39, [.bool b2, .slice p2 l2 K2, .slice q2 j2 J2]), (w.heap.size + 1 + 1, 37, [.bool false, .slice none 0 0]), (w.heap.size + 1 + 1 + 1, 37, [.bool false, .slice none 0 0]), (g7, 37, [.bool (negB X), .slice p l K]), (g9, 37, [.bool (negB Y), .slice pb lb Kb])] ∧ IsNat wx (.slice pb lb Kb) Y.natAbs ∧ Hold w14 wx)
    case first =>
      have HH := Hold.drew w14
      refine iv5 HH n1 d1 n2 d2 nx ?_; clear n1 d1 n2 d2 nx; intro n1 d1 n2 d2 nx
      replace S := S.drew
      refine wp_region_held_drew (S := fun W => W.cell? ⟨w.heap.size + 1, 0, none⟩ = some (.bool b2) ∧ W.cell? ⟨w.heap.size + 1, 1, none⟩ = some (.slice p2 l2 K2) ∧ W.cell? ⟨w.heap.size, 2, none⟩ = some (.slice q1 j1 J1)) (by kernel_rfl) ⟨(S.c 1 0 rfl rfl), ⟨(S.c 1 1 rfl rfl), (S.c 0 2 rfl rfl)⟩⟩ (fun hS => ?_)
      generalize w14.drew = w15 at S n1 d1 n2 d2 nx HH hS ⊢
      refine tk 0 hS ?_
      refine tk 1 hS ?_
      refine tk 2 hS ?_
      refine tk 3 hS ?_
      refine wpAnyH_ready (rs := [4, 9]) (by kernel_rfl) (by simp) (AllReadyH.cons (opOf rfl) (fun KK hKK => ?_) (AllReadyH.cons (opOf rfl) (fun KK hKK => ?_) AllReadyH.nil))
      ·
        go_simp; clear hS
        refine (S.call (wnat_any d1 HD.out.2.1 (x.den : Int) rfl)).mono ?_
        clear S
        rintro e w16 ⟨⟨_, rfl, pn, ln, Kn, rfl, nn⟩, S, H⟩
        refine iv5 H n1 d1 n2 d2 nx ?_; clear n1 d1 n2 d2 nx; intro n1 d1 n2 d2 nx; replace HH := HH.trans H; clear H
        go_wp2_with fail
        refine ho hKK ⟨(S.c 1 0 rfl rfl), ⟨(S.c 1 1 rfl rfl), (S.c 0 2 rfl rfl)⟩⟩ fun hS => ?_
        clear hKK KK
        refine wpAnyH_ready (rs := [5, 9]) (by kernel_rfl) (by simp) (AllReadyH.cons (opOf rfl) (fun KK hKK => ?_) (AllReadyH.cons (opOf rfl) (fun KK hKK => ?_) AllReadyH.nil))
        ·
          go_simp; clear hS
          refine (S.call (wmul_to ⟨_, _, _, by rw [hb2.out], n2⟩ ⟨_, _, _, rfl, nn⟩ HD.out.2.2.1 HD.out.2.1 Y HD.out.2.2.2.2.2.1 HD.out.2.2.2.2.2.2.2)).mono ?_
          clear S
          rintro e w17 ⟨⟨_, rfl, pb, lb, Kb, rfl, ny⟩, S, H⟩
          refine iv6 H n1 d1 n2 d2 nx nn ?_; clear n1 d1 n2 d2 nx nn; intro n1 d1 n2 d2 nx nn; replace HH := HH.trans H; clear H
          go_wp2_with fail
          refine ho hKK ⟨(S.c 1 0 rfl rfl), ⟨(S.c 1 1 rfl rfl), (S.c 0 2 rfl rfl)⟩⟩ fun hS => ?_
          clear hKK KK
          refine tk 6 hS ?_
          refine tk 7 hS ?_
          refine tk 8 hS ?_
          refine rd 9 fun KK hKK => ?_
          go_simp; clear hS
          have H := S.hnew 37 [.bool false, .slice none 0 0]
          replace S := S.al 37 [.bool false, .slice none 0 0] (w17.heap.size)
          refine iv7 H n1 d1 n2 d2 nx nn ny ?_; clear n1 d1 n2 d2 nx nn ny; intro n1 d1 n2 d2 nx nn ny; replace HH := HH.trans H; clear H
          refine ho hKK ⟨(S.c 1 0 rfl rfl), ⟨(S.c 1 1 rfl rfl), (S.c 0 2 rfl rfl)⟩⟩ fun hS => ?_
          generalize (w17.alloc (.cells #[.bool false, .slice none 0 0] 37)) = w18 at S n1 d1 n2 d2 nx nn ny HH hS ⊢
          clear hKK KK
          refine rd 10 fun KK hKK => ?_
          have c0 := S.c 5 0 rfl rfl; have f0 := S.f 5 0 rfl; have c1 := S.c 5 1 rfl rfl; have f1 := S.f 5 1 rfl; go_simp; clear hS c0 f0 c1 f1
          have H := S.hset 5 0 (.bool (negB Y)) rfl rfl (by intro q n e; cases e)
          replace S := S.set 5 0 (.bool (negB Y)) rfl
          refine iv7 H n1 d1 n2 d2 nx nn ny ?_; clear n1 d1 n2 d2 nx nn ny; intro n1 d1 n2 d2 nx nn ny; replace HH := HH.trans H; clear H
          have H := S.hset 5 1 (.slice pb lb Kb) rfl rfl (by intro q n e; cases e)
          replace S := S.set 5 1 (.slice pb lb Kb) rfl
          refine iv7 H n1 d1 n2 d2 nx nn ny ?_; clear n1 d1 n2 d2 nx nn ny; intro n1 d1 n2 d2 nx nn ny; replace HH := HH.trans H; clear H
          refine ho hKK ⟨(S.c 1 0 rfl rfl), ⟨(S.c 1 1 rfl rfl), (S.c 0 2 rfl rfl)⟩⟩ fun hS => ?_
          generalize ((w18.setCell ⟨w17.heap.size, 0, none⟩ (.bool (negB Y))).setCell ⟨w17.heap.size, 1, none⟩ (.slice pb lb Kb)) = w19 at S n1 d1 n2 d2 nx nn ny HH hS ⊢
          clear hKK KK
          refine rd 11 fun KK hKK => ?_
          go_simp
          refine ho hKK hS fun hS => ?_
          clear hKK KK
          refine wpAnyH_done (by kernel_rfl) ?_ _
          go_wp2_with fail
          go_meet
          case rel => exact ⟨w17.heap.size, pb, lb, Kb, rfl, rfl, S, ny, HH⟩
        ·
          go_simp; clear hS
          have H := S.hnew 37 [.bool false, .slice none 0 0]
          replace S := S.al 37 [.bool false, .slice none 0 0] (w16.heap.size)
          refine iv6 H n1 d1 n2 d2 nx nn ?_; clear n1 d1 n2 d2 nx nn; intro n1 d1 n2 d2 nx nn; replace HH := HH.trans H; clear H
          refine ho hKK ⟨(S.c 1 0 rfl rfl), ⟨(S.c 1 1 rfl rfl), (S.c 0 2 rfl rfl)⟩⟩ fun hS => ?_
          generalize (w16.alloc (.cells #[.bool false, .slice none 0 0] 37)) = w20 at S n1 d1 n2 d2 nx nn HH hS ⊢
          clear hKK KK
          refine rd 5 fun KK hKK => ?_
          go_simp; clear hS
          refine (S.call (wmul_to ⟨_, _, _, by rw [hb2.out], n2⟩ ⟨_, _, _, rfl, nn⟩ HD.out.2.2.1 HD.out.2.1 Y HD.out.2.2.2.2.2.1 HD.out.2.2.2.2.2.2.2)).mono ?_
          clear S
          rintro e w21 ⟨⟨_, rfl, pb, lb, Kb, rfl, ny⟩, S, H⟩
          refine iv6 H n1 d1 n2 d2 nx nn ?_; clear n1 d1 n2 d2 nx nn; intro n1 d1 n2 d2 nx nn; replace HH := HH.trans H; clear H
          go_wp2_with fail
          refine ho hKK ⟨(S.c 1 0 rfl rfl), ⟨(S.c 1 1 rfl rfl), (S.c 0 2 rfl rfl)⟩⟩ fun hS => ?_
          clear hKK KK
          refine tk 6 hS ?_
          refine tk 7 hS ?_
          refine tk 8 hS ?_
          refine rd 10 fun KK hKK => ?_
          have c0 := S.c 5 0 rfl rfl; have f0 := S.f 5 0 rfl; have c1 := S.c 5 1 rfl rfl; have f1 := S.f 5 1 rfl; go_simp; clear hS c0 f0 c1 f1
          have H := S.hset 5 0 (.bool (negB Y)) rfl rfl (by intro q n e; cases e)
          replace S := S.set 5 0 (.bool (negB Y)) rfl
          refine iv7 H n1 d1 n2 d2 nx nn ny ?_; clear n1 d1 n2 d2 nx nn ny; intro n1 d1 n2 d2 nx nn ny; replace HH := HH.trans H; clear H
          have H := S.hset 5 1 (.slice pb lb Kb) rfl rfl (by intro q n e; cases e)
          replace S := S.set 5 1 (.slice pb lb Kb) rfl
          refine iv7 H n1 d1 n2 d2 nx nn ny ?_; clear n1 d1 n2 d2 nx nn ny; intro n1 d1 n2 d2 nx nn ny; replace HH := HH.trans H; clear H
          refine ho hKK ⟨(S.c 1 0 rfl rfl), ⟨(S.c 1 1 rfl rfl), (S.c 0 2 rfl rfl)⟩⟩ fun hS => ?_
          generalize ((w21.setCell ⟨w16.heap.size, 0, none⟩ (.bool (negB Y))).setCell ⟨w16.heap.size, 1, none⟩ (.slice pb lb Kb)) = w22 at S n1 d1 n2 d2 nx nn ny HH hS ⊢
          clear hKK KK
          refine rd 11 fun KK hKK => ?_
          go_simp
          refine ho hKK hS fun hS => ?_
          clear hKK KK
          refine wpAnyH_done (by kernel_rfl) ?_ _
          go_wp2_with fail
          go_meet
          case rel => exact ⟨w16.heap.size, pb, lb, Kb, rfl, rfl, S, ny, HH⟩
      ·
        go_simp; clear hS
        have H := S.hnew 37 [.bool false, .slice none 0 0]
        replace S := S.al 37 [.bool false, .slice none 0 0] (w15.heap.size)
        refine iv5 H n1 d1 n2 d2 nx ?_; clear n1 d1 n2 d2 nx; intro n1 d1 n2 d2 nx; replace HH := HH.trans H; clear H
        refine ho hKK ⟨(S.c 1 0 rfl rfl), ⟨(S.c 1 1 rfl rfl), (S.c 0 2 rfl rfl)⟩⟩ fun hS => ?_
        generalize (w15.alloc (.cells #[.bool false, .slice none 0 0] 37)) = w23 at S n1 d1 n2 d2 nx HH hS ⊢
        clear hKK KK
        refine rd 4 fun KK hKK => ?_
        go_simp; clear hS
        refine (S.call (wnat_any d1 HD.out.2.1 (x.den : Int) rfl)).mono ?_
        clear S
        rintro e w24 ⟨⟨_, rfl, pn, ln, Kn, rfl, nn⟩, S, H⟩
        refine iv5 H n1 d1 n2 d2 nx ?_; clear n1 d1 n2 d2 nx; intro n1 d1 n2 d2 nx; replace HH := HH.trans H; clear H
        go_wp2_with fail
        refine ho hKK ⟨(S.c 1 0 rfl rfl), ⟨(S.c 1 1 rfl rfl), (S.c 0 2 rfl rfl)⟩⟩ fun hS => ?_
        clear hKK KK
        refine rd 5 fun KK hKK => ?_
        go_simp; clear hS
        refine (S.call (wmul_to ⟨_, _, _, by rw [hb2.out], n2⟩ ⟨_, _, _, rfl, nn⟩ HD.out.2.2.1 HD.out.2.1 Y HD.out.2.2.2.2.2.1 HD.out.2.2.2.2.2.2.2)).mono ?_
        clear S
        rintro e w25 ⟨⟨_, rfl, pb, lb, Kb, rfl, ny⟩, S, H⟩
        refine iv6 H n1 d1 n2 d2 nx nn ?_; clear n1 d1 n2 d2 nx nn; intro n1 d1 n2 d2 nx nn; replace HH := HH.trans H; clear H
        go_wp2_with fail
        refine ho hKK ⟨(S.c 1 0 rfl rfl), ⟨(S.c 1 1 rfl rfl), (S.c 0 2 rfl rfl)⟩⟩ fun hS => ?_
        clear hKK KK
        refine tk 6 hS ?_
        refine tk 7 hS ?_
        refine tk 8 hS ?_
        refine rd 10 fun KK hKK => ?_
        have c0 := S.c 5 0 rfl rfl; have f0 := S.f 5 0 rfl; have c1 := S.c 5 1 rfl rfl; have f1 := S.f 5 1 rfl; go_simp; clear hS c0 f0 c1 f1
        have H := S.hset 5 0 (.bool (negB Y)) rfl rfl (by intro q n e; cases e)
        replace S := S.set 5 0 (.bool (negB Y)) rfl
        refine iv7 H n1 d1 n2 d2 nx nn ny ?_; clear n1 d1 n2 d2 nx nn ny; intro n1 d1 n2 d2 nx nn ny; replace HH := HH.trans H; clear H
        have H := S.hset 5 1 (.slice pb lb Kb) rfl rfl (by intro q n e; cases e)
        replace S := S.set 5 1 (.slice pb lb Kb) rfl
        refine iv7 H n1 d1 n2 d2 nx nn ny ?_; clear n1 d1 n2 d2 nx nn ny; intro n1 d1 n2 d2 nx nn ny; replace HH := HH.trans H; clear H
        refine ho hKK ⟨(S.c 1 0 rfl rfl), ⟨(S.c 1 1 rfl rfl), (S.c 0 2 rfl rfl)⟩⟩ fun hS => ?_
        generalize ((w25.setCell ⟨w15.heap.size, 0, none⟩ (.bool (negB Y))).setCell ⟨w15.heap.size, 1, none⟩ (.slice pb lb Kb)) = w26 at S n1 d1 n2 d2 nx nn ny HH hS ⊢
        clear hKK KK
        refine rd 11 fun KK hKK => ?_
        go_simp
        refine ho hKK hS fun hS => ?_
        clear hKK KK
        refine wpAnyH_done (by kernel_rfl) ?_ _
        go_wp2_with fail
        go_meet
        case rel => exact ⟨w15.heap.size, pb, lb, Kb, rfl, rfl, S, ny, HH⟩
    case rest =>
      obtain ⟨g9, pb, lb, Kb, rfl, rfl, S, ny, HH⟩ := hcut
      obtain ⟨w27, rfl⟩ : ∃ W : World, W = wc := ⟨_, rfl⟩
      refine iv5 HH n1 d1 n2 d2 nx ?_; clear n1 d1 n2 d2 nx; intro n1 d1 n2 d2 nx; clear HH; obtain ⟨c0_0, c0_1, c0_2⟩ := S.c3 0 rfl; obtain ⟨c1_0, c1_1, c1_2⟩ := S.c3 1 rfl; have c2_0 := S.c 2 0 rfl rfl; have c2_1 := S.c 2 1 rfl rfl; have c3_0 := S.c 3 0 rfl rfl; have c3_1 := S.c 3 1 rfl rfl; have c4_0 := S.c 4 0 rfl rfl; have c4_1 := S.c 4 1 rfl rfl; have c5_0 := S.c 5 0 rfl rfl; have c5_1 := S.c 5 1 rfl rfl
      go_upto_region 3 with fail
      clear c0_0 c0_1 c0_2 c1_0 c1_1 c1_2 c2_0 c2_1 c3_0 c3_1 c4_0 c4_1 c5_0 c5_1
      have HH := Hold.drew w27
      refine iv6 HH n1 d1 n2 d2 nx ny ?_; clear n1 d1 n2 d2 nx ny; intro n1 d1 n2 d2 nx ny
      replace S := S.drew
      refine wp_region_held_drew (S := fun W => W.cell? ⟨g7, 0, none⟩ = some (.bool (negB X)) ∧ W.cell? ⟨g7, 1, none⟩ = some (.slice p l K) ∧ W.cell? ⟨g9, 0, none⟩ = some (.bool (negB Y)) ∧ W.cell? ⟨g9, 1, none⟩ = some (.slice pb lb Kb)) (by kernel_rfl) ⟨(S.c 4 0 rfl rfl), ⟨(S.c 4 1 rfl rfl), ⟨(S.c 5 0 rfl rfl), (S.c 5 1 rfl rfl)⟩⟩⟩ (fun hS => ?_)
      generalize w27.drew = w28 at S n1 d1 n2 d2 nx ny HH hS ⊢
      refine tk 0 hS ?_
      refine tk 1 hS ?_
      refine tk 2 hS ?_
      refine tk 3 hS ?_
      refine rd 4 fun KK hKK => ?_
      go_simp; clear hS
      have H := S.hnew 27 [.int .i64 0, .int .i64 0]
      replace S := S.al 27 [.int .i64 0, .int .i64 0] (w28.heap.size)
      refine iv6 H n1 d1 n2 d2 nx ny ?_; clear n1 d1 n2 d2 nx ny; intro n1 d1 n2 d2 nx ny; replace HH := HH.trans H; clear H
      refine ho hKK ⟨(S.c 4 0 rfl rfl), ⟨(S.c 4 1 rfl rfl), ⟨(S.c 5 0 rfl rfl), (S.c 5 1 rfl rfl)⟩⟩⟩ fun hS => ?_
      generalize (w28.alloc (.cells #[.int .i64 0, .int .i64 0] 27)) = w29 at S n1 d1 n2 d2 nx ny HH hS ⊢
      clear hKK KK
      refine rd 5 fun KK hKK => ?_
      go_simp; clear hS
      refine (S.call (or_two S 6 rfl)).mono ?_
      clear S
      rintro e w30 ⟨rfl, S, H⟩
      refine iv6 H n1 d1 n2 d2 nx ny ?_; clear n1 d1 n2 d2 nx ny; intro n1 d1 n2 d2 nx ny; replace HH := HH.trans H; clear H
      go_wp2_with fail
      refine ho hKK ⟨(S.c 4 0 rfl rfl), ⟨(S.c 4 1 rfl rfl), ⟨(S.c 5 0 rfl rfl), (S.c 5 1 rfl rfl)⟩⟩⟩ fun hS => ?_
      clear hKK KK
      refine rd 6 fun KK hKK => ?_
      have c0 := S.c 2 0 rfl rfl; have f0 := S.f 2 0 rfl; have c1 := S.c 2 1 rfl rfl; have f1 := S.f 2 1 rfl; go_simp; clear hS c0 f0 c1 f1
      have H := S.hset 2 0 (.bool (negB X)) rfl rfl (by intro q n e; cases e)
      replace S := S.set 2 0 (.bool (negB X)) rfl
      refine iv6 H n1 d1 n2 d2 nx ny ?_; clear n1 d1 n2 d2 nx ny; intro n1 d1 n2 d2 nx ny; replace HH := HH.trans H; clear H
      have H := S.hset 2 1 (.slice p l K) rfl rfl (by intro q n e; cases e)
      replace S := S.set 2 1 (.slice p l K) rfl
      refine iv6 H n1 d1 n2 d2 nx ny ?_; clear n1 d1 n2 d2 nx ny; intro n1 d1 n2 d2 nx ny; replace HH := HH.trans H; clear H
      refine ho hKK ⟨(S.c 4 0 rfl rfl), ⟨(S.c 4 1 rfl rfl), ⟨(S.c 5 0 rfl rfl), (S.c 5 1 rfl rfl)⟩⟩⟩ fun hS => ?_
      generalize ((w30.setCell ⟨w.heap.size + 1 + 1, 0, none⟩ (.bool (negB X))).setCell ⟨w.heap.size + 1 + 1, 1, none⟩ (.slice p l K)) = w31 at S n1 d1 n2 d2 nx ny HH hS ⊢
      clear hKK KK
      refine rd 7 fun KK hKK => ?_
      have c0 := S.c 3 0 rfl rfl; have f0 := S.f 3 0 rfl; have c1 := S.c 3 1 rfl rfl; have f1 := S.f 3 1 rfl; go_simp; clear hS c0 f0 c1 f1
      have H := S.hset 3 0 (.bool (negB Y)) rfl rfl (by intro q n e; cases e)
      replace S := S.set 3 0 (.bool (negB Y)) rfl
      refine iv6 H n1 d1 n2 d2 nx ny ?_; clear n1 d1 n2 d2 nx ny; intro n1 d1 n2 d2 nx ny; replace HH := HH.trans H; clear H
      have H := S.hset 3 1 (.slice pb lb Kb) rfl rfl (by intro q n e; cases e)
      replace S := S.set 3 1 (.slice pb lb Kb) rfl
      refine iv6 H n1 d1 n2 d2 nx ny ?_; clear n1 d1 n2 d2 nx ny; intro n1 d1 n2 d2 nx ny; replace HH := HH.trans H; clear H
      refine ho hKK ⟨(S.c 4 0 rfl rfl), ⟨(S.c 4 1 rfl rfl), ⟨(S.c 5 0 rfl rfl), (S.c 5 1 rfl rfl)⟩⟩⟩ fun hS => ?_
      generalize ((w31.setCell ⟨w.heap.size + 1 + 1 + 1, 0, none⟩ (.bool (negB Y))).setCell ⟨w.heap.size + 1 + 1 + 1, 1, none⟩ (.slice pb lb Kb)) = w32 at S n1 d1 n2 d2 nx ny HH hS ⊢
      clear hKK KK
      refine rd 8 fun KK hKK => ?_
      go_simp
      refine ho hKK hS fun hS => ?_
      clear hKK KK
      refine wpAnyH_done (by kernel_rfl) ?_ _
      clear hS HH; obtain ⟨c0_0, c0_1, c0_2⟩ := S.c3 0 rfl; obtain ⟨c1_0, c1_1, c1_2⟩ := S.c3 1 rfl; have c2_0 := S.c 2 0 rfl rfl; have c2_1 := S.c 2 1 rfl rfl; have c3_0 := S.c 3 0 rfl rfl; have c3_1 := S.c 3 1 rfl rfl; have c4_0 := S.c 4 0 rfl rfl; have c4_1 := S.c 4 1 rfl rfl; have c5_0 := S.c 5 0 rfl rfl; have c5_1 := S.c 5 1 rfl rfl; go_wp2_with fail; have d2_0 := S.c 2 0 rfl rfl; have d2_1 := S.c 2 1 rfl rfl; have d3_0 := S.c 3 0 rfl rfl; have d3_1 := S.c 3 1 rfl rfl
      exact bodyPost_ret (v := .tuple #[.agg #[.bool (negB X), .slice p l K], .agg #[.bool (negB Y), .slice pb lb Kb], .int .i64 0]) (by simp [results, Tryz.f51, go_sem, d2_0, d2_1, d3_0, d3_1]) rfl (⟨⟨_, _, rfl, ⟨p, l, K, rfl, nx⟩, ⟨pb, lb, Kb, rfl, ny⟩⟩, S.below⟩)
theorem make_parts (n d : Int) (h0 : d ≠ 0) : 0 < Nat.gcd n.natAbs d.natAbs ∧ (Rat.divInt n d).den = d.natAbs / Nat.gcd n.natAbs d.natAbs ∧ (0 < d → (Rat.divInt n d).num = n / ((Nat.gcd n.natAbs d.natAbs : Nat) : Int)) ∧ (d < 0 → (Rat.divInt n d).num = -(n / ((Nat.gcd n.natAbs d.natAbs : Nat) : Int))) := by
  have hg : Int.gcd d n = Nat.gcd n.natAbs d.natAbs := by rw [Int.gcd_eq_natAbs_gcd_natAbs, Nat.gcd_comm]
  have hdvd : ((Nat.gcd n.natAbs d.natAbs : Nat) : Int) ∣ n := Int.ofNat_dvd_left.2 (Nat.gcd_dvd_left _ _)
  refine ⟨Nat.gcd_pos_of_pos_right _ (by omega), ?_, fun h => ?_, fun h => ?_⟩
  · rw [Rat.den_divInt, if_neg h0, hg]
  · rw [Rat.num_divInt, hg, Int.sign_eq_one_of_pos h, Int.one_mul]
  · rw [Rat.num_divInt, hg, Int.sign_eq_neg_one_of_neg h, Int.neg_one_mul, Int.neg_ediv_of_dvd hdvd]
set_option maxRecDepth 100000 in
set_option maxHeartbeats 8000000 in
theorem rmake_any {va vb : Value} {n d : Int} {w : World} (ha : IsInt w va n) (hb : IsInt w vb d) (hn : n.natAbs < maxN) (hd : d.natAbs < maxN) (h0 : d ≠ 0) (q : Rat) (hq : q = Rat.divInt n d) :
    Calls Tryz.prog 55 #[va, vb] w fun e w' => (∃ u, e = .returned (.tuple #[u, .int .i64 0]) ∧ IsRat w' u q) ∧ Below w.heap.size w w' := by
  obtain ⟨p1, l1, K1, rfl, n1⟩ := ha
  obtain ⟨p2, l2, K2, rfl, n2⟩ := hb
  obtain ⟨b1, hb1⟩ : ∃ b1, negB n = b1 := ⟨_, rfl⟩
  obtain ⟨b2, hb2⟩ : ∃ b2, negB d = b2 := ⟨_, rfl⟩
  rw [hb1, hb2]
  obtain ⟨g, hg⟩ : ∃ g, Nat.gcd n.natAbs d.natAbs = g := ⟨_, rfl⟩
  have mp := make_parts n d h0
  rw [hg, ← hq] at mp
  obtain ⟨z, hz⟩ : ∃ z, n / (g : Int) = z := ⟨_, rfl⟩
  obtain ⟨zr, hzr⟩ : ∃ z, n % (g : Int) = z := ⟨_, rfl⟩
  obtain ⟨y, hy⟩ : ∃ z, ((d.natAbs : Nat) : Int) / (g : Int) = z := ⟨_, rfl⟩
  obtain ⟨yr, hyr⟩ : ∃ z, ((d.natAbs : Nat) : Int) % (g : Int) = z := ⟨_, rfl⟩
  rw [hz] at mp
  have hgm : g < maxN := by
    have : g ≤ d.natAbs := hg ▸ Nat.gcd_le_right _ (by omega)
    omega
  have hyd : y.natAbs = q.den := by
    rw [← hy, mp.2.1, ← Int.natCast_ediv, Int.natAbs_natCast]
  have hzm : z.natAbs < maxN := hz ▸ Nat.lt_of_le_of_lt (Int.natAbs_ediv_le_natAbs _ _) hn
  have hg0 : ((g : Nat) : Int) ≠ 0 := by have := mp.1; omega
  have hq1 : b2 = false → q.num = z := fun e => mp.2.2.1 (by
    by_cases h : d < 0
    · rw [negB_pos h, e] at hb2; cases hb2
    · omega)
  have hq2 : b2 = true → q.num = -z := fun e => mp.2.2.2 (by
    by_cases h : d < 0
    · exact h
    · rw [negB_neg h, e] at hb2; cases hb2)
  obtain ⟨s, hs⟩ : ∃ s, d.sign = s := ⟨_, rfl⟩
  have hs0 : ¬ s = 0 := by rw [← hs]; exact fun h => h0 (Int.sign_eq_zero_iff_zero.1 h)
  have hs1 : (s == 0) = false := by simpa using hs0
  have HD := Lib.hid (And.intro hb1 (And.intro hb2 (And.intro hn (And.intro hd hs))))
  have HG := Lib.hid (And.intro hg (And.intro hgm hg0))
  have HZ := Lib.hid (And.intro hz (And.intro hzr (And.intro hy hyr)))
  have HQ := Lib.hid (And.intro hyd (And.intro hzm (And.intro hq1 hq2)))
  clear hb1 hb2 hn hd hs hg hgm hg0 hz hzr hy hyr hyd hzm hq1 hq2 mp hq h0
  have S := (((St.start w).alloc 37 [.bool b1, .slice p1 l1 K1] (w.heap.size)).alloc 37 [.bool b2, .slice p2 l2 K2] (w.heap.size + 1)).alloc 39 [.bool false, .slice none 0 0, .slice none 0 0] (w.heap.size + 1 + 1)
  try simp only [List.cons_append, List.nil_append] at S
  replace n1 := n1.hold S.hold; replace n2 := n2.hold S.hold
  have c0_0 := S.c 0 0 rfl rfl; have c0_1 := S.c 0 1 rfl rfl; have c1_0 := S.c 1 0 rfl rfl; have c1_1 := S.c 1 1 rfl rfl; obtain ⟨c2_0, c2_1, c2_2⟩ := S.c3 2 rfl
  go_enter Tryz.func55, Tryz.ntmps55
  go_wp2_with fail; clear c0_0 c0_1 c1_0 c1_1 c2_0 c2_1 c2_2
  refine (S.call (wsign_any ⟨_, _, _, by rw [HD.out.2.1], n2⟩ HD.out.2.2.2.1 HD.out.2.2.2.2)).mono ?_
  clear S
  rintro e w1 ⟨rfl, S, H⟩
  replace n1 := n1.hold H; replace n2 := n2.hold H
  clear H; have c0_0 := S.c 0 0 rfl rfl; have c0_1 := S.c 0 1 rfl rfl; have c1_0 := S.c 1 0 rfl rfl; have c1_1 := S.c 1 1 rfl rfl; obtain ⟨c2_0, c2_1, c2_2⟩ := S.c3 2 rfl
  go_upto_region 3 with fail
  clear c0_0 c0_1 c1_0 c1_1 c2_0 c2_1 c2_2
  have HH := Hold.drew w1
  replace n1 := n1.hold HH; replace n2 := n2.hold HH
  replace S := S.drew
  refine wp_region_held_drew (S := fun W => W.cell? ⟨w.heap.size, 0, none⟩ = some (.bool b1) ∧ W.cell? ⟨w.heap.size, 1, none⟩ = some (.slice p1 l1 K1) ∧ W.cell? ⟨w.heap.size + 1, 0, none⟩ = some (.bool b2) ∧ W.cell? ⟨w.heap.size + 1, 1, none⟩ = some (.slice p2 l2 K2)) (by kernel_rfl) ⟨(S.c 0 0 rfl rfl), ⟨(S.c 0 1 rfl rfl), ⟨(S.c 1 0 rfl rfl), (S.c 1 1 rfl rfl)⟩⟩⟩ (fun hS => ?_)
  generalize w1.drew = w2 at S n1 n2 HH hS ⊢
  refine tk 0 hS ?_
  refine tk 2 hS ?_
  refine rd 1 fun KK hKK => ?_
  go_simp; clear hS
  refine (S.call (wcheck_any ⟨_, _, _, by rw [HD.out.1], n1⟩ HD.out.2.2.1)).mono ?_
  clear S
  rintro e w3 ⟨rfl, S, H⟩
  replace n1 := n1.hold H; replace n2 := n2.hold H; replace HH := HH.trans H; clear H
  go_wp2_with fail
  refine ho hKK ⟨(S.c 0 0 rfl rfl), ⟨(S.c 0 1 rfl rfl), ⟨(S.c 1 0 rfl rfl), (S.c 1 1 rfl rfl)⟩⟩⟩ fun hS => ?_
  clear hKK KK
  refine rd 3 fun KK hKK => ?_
  go_simp; clear hS
  refine (S.call (wcheck_any ⟨_, _, _, by rw [HD.out.2.1], n2⟩ HD.out.2.2.2.1)).mono ?_
  clear S
  rintro e w4 ⟨rfl, S, H⟩
  replace n1 := n1.hold H; replace n2 := n2.hold H; replace HH := HH.trans H; clear H
  go_wp2_with fail
  refine ho hKK ⟨(S.c 0 0 rfl rfl), ⟨(S.c 0 1 rfl rfl), ⟨(S.c 1 0 rfl rfl), (S.c 1 1 rfl rfl)⟩⟩⟩ fun hS => ?_
  clear hKK KK
  refine rd 4 fun KK hKK => ?_
  go_simp; clear hS
  have H := S.hnew 27 [.int .i64 0, .int .i64 0]
  replace S := S.al 27 [.int .i64 0, .int .i64 0] (w4.heap.size)
  replace n1 := n1.hold H; replace n2 := n2.hold H; replace HH := HH.trans H; clear H
  refine ho hKK ⟨(S.c 0 0 rfl rfl), ⟨(S.c 0 1 rfl rfl), ⟨(S.c 1 0 rfl rfl), (S.c 1 1 rfl rfl)⟩⟩⟩ fun hS => ?_
  generalize (w4.alloc (.cells #[.int .i64 0, .int .i64 0] 27)) = w5 at S n1 n2 HH hS ⊢
  clear hKK KK
  refine rd 5 fun KK hKK => ?_
  go_simp; clear hS
  refine (S.call (or_two S 3 rfl)).mono ?_
  clear S
  rintro e w6 ⟨rfl, S, H⟩
  replace n1 := n1.hold H; replace n2 := n2.hold H; replace HH := HH.trans H; clear H
  go_wp2_with fail
  refine ho hKK ⟨(S.c 0 0 rfl rfl), ⟨(S.c 0 1 rfl rfl), ⟨(S.c 1 0 rfl rfl), (S.c 1 1 rfl rfl)⟩⟩⟩ fun hS => ?_
  clear hKK KK
  refine rd 6 fun KK hKK => ?_
  go_simp
  refine ho hKK hS fun hS => ?_
  clear hKK KK
  refine wpAnyH_done (by kernel_rfl) ?_ _
  clear hS HH; have c0_0 := S.c 0 0 rfl rfl; have c0_1 := S.c 0 1 rfl rfl; have c1_0 := S.c 1 0 rfl rfl; have c1_1 := S.c 1 1 rfl rfl; obtain ⟨c2_0, c2_1, c2_2⟩ := S.c3 2 rfl; go_wp2_with fail; clear c0_0 c0_1 c1_0 c1_1 c2_0 c2_1 c2_2
  refine (S.call (gcd_any n1 n2 HD.out.2.2.1 HD.out.2.2.2.1)).mono ?_
  clear S
  rintro e w7 ⟨⟨vg, rfl, ng⟩, S, H⟩
  replace n1 := n1.hold H; replace n2 := n2.hold H
  clear H; have c0_0 := S.c 0 0 rfl rfl; have c0_1 := S.c 0 1 rfl rfl; have c1_0 := S.c 1 0 rfl rfl; have c1_1 := S.c 1 1 rfl rfl; obtain ⟨c2_0, c2_1, c2_2⟩ := S.c3 2 rfl
  rw [HG.out.1] at ng
  go_wp2_with fail; clear c0_0 c0_1 c1_0 c1_1 c2_0 c2_1 c2_2
  refine (S.call (wnat_any ng HG.out.2.1 (g : Int) rfl)).mono ?_
  clear S
  rintro e w8 ⟨⟨_, rfl, pc, lc, Kc, rfl, nc⟩, S, H⟩
  refine iv3 H n1 n2 ng ?_; clear n1 n2 ng; intro n1 n2 ng
  clear H; have c0_0 := S.c 0 0 rfl rfl; have c0_1 := S.c 0 1 rfl rfl; have c1_0 := S.c 1 0 rfl rfl; have c1_1 := S.c 1 1 rfl rfl; obtain ⟨c2_0, c2_1, c2_2⟩ := S.c3 2 rfl
  have H := S.hnew 37 [.bool (negB (g : Int)), .slice pc lc Kc]
  replace S := S.al 37 [.bool (negB (g : Int)), .slice pc lc Kc] (w8.heap.size)
  refine iv4 H n1 n2 ng nc ?_; clear n1 n2 ng nc; intro n1 n2 ng nc
  clear H; clear c0_0 c0_1 c1_0 c1_1 c2_0 c2_1 c2_2; have c0_0 := S.c 0 0 rfl rfl; have c0_1 := S.c 0 1 rfl rfl; have c1_0 := S.c 1 0 rfl rfl; have c1_1 := S.c 1 1 rfl rfl; obtain ⟨c2_0, c2_1, c2_2⟩ := S.c3 2 rfl; have c4_0 := S.c 4 0 rfl rfl; have c4_1 := S.c 4 1 rfl rfl; go_wp2_with fail; clear c0_0 c0_1 c1_0 c1_1 c2_0 c2_1 c2_2 c4_0 c4_1
  refine (S.call (wdiv_to ⟨_, _, _, by rw [HD.out.1], n1⟩ ⟨_, _, _, rfl, nc⟩ HD.out.2.2.1 HG.out.2.1 z zr HG.out.2.2 HZ.out.1 HZ.out.2.1)).mono ?_
  clear S
  rintro e w9 ⟨⟨_, _, rfl, ⟨pz, lz, Kz, rfl, nz⟩, ⟨pr, lr, Kr, rfl, nr⟩⟩, S, H⟩
  refine iv4 H n1 n2 ng nc ?_; clear n1 n2 ng nc; intro n1 n2 ng nc
  clear H; have c0_0 := S.c 0 0 rfl rfl; have c0_1 := S.c 0 1 rfl rfl; have c1_0 := S.c 1 0 rfl rfl; have c1_1 := S.c 1 1 rfl rfl; obtain ⟨c2_0, c2_1, c2_2⟩ := S.c3 2 rfl; have c4_0 := S.c 4 0 rfl rfl; have c4_1 := S.c 4 1 rfl rfl
  have H := S.hnew 37 [.bool (negB z), .slice pz lz Kz]
  replace S := S.al 37 [.bool (negB z), .slice pz lz Kz] (w9.heap.size)
  refine iv5 H n1 n2 ng nc nz ?_; clear n1 n2 ng nc nz; intro n1 n2 ng nc nz
  clear H
  have H := S.hnew 37 [.bool (negB zr), .slice pr lr Kr]
  replace S := S.al 37 [.bool (negB zr), .slice pr lr Kr] (w9.heap.size + 1)
  refine iv5 H n1 n2 ng nc nz ?_; clear n1 n2 ng nc nz; intro n1 n2 ng nc nz
  clear H; clear c0_0 c0_1 c1_0 c1_1 c2_0 c2_1 c2_2 c4_0 c4_1; have c0_0 := S.c 0 0 rfl rfl; have c0_1 := S.c 0 1 rfl rfl; have c1_0 := S.c 1 0 rfl rfl; have c1_1 := S.c 1 1 rfl rfl; obtain ⟨c2_0, c2_1, c2_2⟩ := S.c3 2 rfl; have c4_0 := S.c 4 0 rfl rfl; have c4_1 := S.c 4 1 rfl rfl; have c5_0 := S.c 5 0 rfl rfl; have c5_1 := S.c 5 1 rfl rfl
  go_upto_region 8 with fail
  clear c0_0 c0_1 c1_0 c1_1 c2_0 c2_1 c2_2 c4_0 c4_1 c5_0 c5_1
  generalize (.tuple #[.agg #[.bool (negB z), .slice pz lz Kz], .agg #[.bool (negB zr), .slice pr lr Kr], .int .i64 0] : Value) = x1
  generalize (.agg #[.bool (negB z), .slice pz lz Kz] : Value) = x2
  generalize (.agg #[.bool (negB zr), .slice pr lr Kr] : Value) = x3
  generalize (.agg #[.bool b1, .slice p1 l1 K1] : Value) = x4
  generalize ((w9.alloc (.cells #[.bool (negB z), .slice pz lz Kz] 37)).alloc (.cells #[.bool (negB zr), .slice pr lr Kr] 37)) = w10 at S n1 n2 ng nc nz ⊢
  go_cut [11] (fun s11 wx => ∃ g11 py ly Ky, s11 = .pointer (some ⟨g11, 0, none⟩) ∧ St w wx [(w.heap.size, 37, [.bool b1, .slice p1 l1 K1]), (w.heap.size + 1, 37, [.bool b2, .slice p2 l2 K2]), (w.heap.size + 1 + 1, 39, [.bool false, .slice none 0 0, .slice none 0 0]), (w4.heap.size, 27, [.int .i64 0, .int .i64 0]), (w8.heap.size, 37, [.bool (negB (g : Int)), .slice pc lc Kc]), (w9.heap.size, 37, [.bool (negB z), .slice pz lz Kz]), (w9.heap.size + 1, 37, [.bool (negB zr), .slice pr lr Kr]), (g11, 37, [.bool (negB y), .slice py ly Ky])] ∧ IsNat wx (.slice py ly Ky) y.natAbs ∧ Hold w10 wx)
  case first =>
    have HH := Hold.drew w10
    refine iv5 HH n1 n2 ng nc nz ?_; clear n1 n2 ng nc nz; intro n1 n2 ng nc nz
    replace S := S.drew
    refine wp_region_held_drew (S := fun W => W.cell? ⟨w.heap.size + 1, 0, none⟩ = some (.bool b2) ∧ W.cell? ⟨w.heap.size + 1, 1, none⟩ = some (.slice p2 l2 K2) ∧ W.cell? ⟨w8.heap.size, 0, none⟩ = some (.bool (negB (g : Int))) ∧ W.cell? ⟨w8.heap.size, 1, none⟩ = some (.slice pc lc Kc)) (by kernel_rfl) ⟨(S.c 1 0 rfl rfl), ⟨(S.c 1 1 rfl rfl), ⟨(S.c 4 0 rfl rfl), (S.c 4 1 rfl rfl)⟩⟩⟩ (fun hS => ?_)
    generalize w10.drew = w11 at S n1 n2 ng nc nz HH hS ⊢
    refine tk 0 hS ?_
    refine tk 2 hS ?_
    refine wpAnyH_ready (rs := [1, 8, 9]) (by kernel_rfl) (by simp) (AllReadyH.cons (opOf rfl) (fun KK hKK => ?_) (AllReadyH.cons (opOf rfl) (fun KK hKK => ?_) (AllReadyH.cons (opOf rfl) (fun KK hKK => ?_) AllReadyH.nil)))
    ·
      go_simp; clear hS
      refine (S.call (wabs_any ⟨_, _, _, by rw [HD.out.2.1], n2⟩ HD.out.2.2.2.1 ((d.natAbs : Nat) : Int) rfl)).mono ?_
      clear S
      rintro e w12 ⟨⟨_, rfl, pa, la, Ka, rfl, na⟩, S, H⟩
      refine iv5 H n1 n2 ng nc nz ?_; clear n1 n2 ng nc nz; intro n1 n2 ng nc nz; replace HH := HH.trans H; clear H
      go_wp2_with fail
      refine ho hKK ⟨(S.c 1 0 rfl rfl), ⟨(S.c 1 1 rfl rfl), ⟨(S.c 4 0 rfl rfl), (S.c 4 1 rfl rfl)⟩⟩⟩ fun hS => ?_
      clear hKK KK
      refine wpAnyH_ready (rs := [3, 8, 9]) (by kernel_rfl) (by simp) (AllReadyH.cons (opOf rfl) (fun KK hKK => ?_) (AllReadyH.cons (opOf rfl) (fun KK hKK => ?_) (AllReadyH.cons (opOf rfl) (fun KK hKK => ?_) AllReadyH.nil)))
      ·
        go_simp; clear hS
        refine (S.call (wdiv_to ⟨_, _, _, rfl, na⟩ ⟨_, _, _, rfl, nc⟩ HD.out.2.2.2.1 HG.out.2.1 y yr HG.out.2.2 HZ.out.2.2.1 HZ.out.2.2.2)).mono ?_
        clear S
        rintro e w13 ⟨⟨_, _, rfl, ⟨py, ly, Ky, rfl, ny⟩, ⟨pv, lv, Kv, rfl, nv⟩⟩, S, H⟩
        refine iv6 H n1 n2 ng nc nz na ?_; clear n1 n2 ng nc nz na; intro n1 n2 ng nc nz na; replace HH := HH.trans H; clear H
        go_wp2_with fail
        refine ho hKK ⟨(S.c 1 0 rfl rfl), ⟨(S.c 1 1 rfl rfl), ⟨(S.c 4 0 rfl rfl), (S.c 4 1 rfl rfl)⟩⟩⟩ fun hS => ?_
        clear hKK KK
        refine tk 4 hS ?_
        refine tk 5 hS ?_
        refine tk 6 hS ?_
        refine tk 7 hS ?_
        refine wpAnyH_ready (rs := [8, 9]) (by kernel_rfl) (by simp) (AllReadyH.cons (opOf rfl) (fun KK hKK => ?_) (AllReadyH.cons (opOf rfl) (fun KK hKK => ?_) AllReadyH.nil))
        ·
          go_simp; clear hS
          have H := S.hnew 37 [.bool false, .slice none 0 0]
          replace S := S.al 37 [.bool false, .slice none 0 0] (w13.heap.size)
          refine iv7 H n1 n2 ng nc nz na ny ?_; clear n1 n2 ng nc nz na ny; intro n1 n2 ng nc nz na ny; replace HH := HH.trans H; clear H
          refine ho hKK ⟨(S.c 1 0 rfl rfl), ⟨(S.c 1 1 rfl rfl), ⟨(S.c 4 0 rfl rfl), (S.c 4 1 rfl rfl)⟩⟩⟩ fun hS => ?_
          generalize (w13.alloc (.cells #[.bool false, .slice none 0 0] 37)) = w14 at S n1 n2 ng nc nz na ny HH hS ⊢
          clear hKK KK
          refine rd 9 fun KK hKK => ?_
          go_simp; clear hS
          have H := S.hnew 37 [.bool false, .slice none 0 0]
          replace S := S.al 37 [.bool false, .slice none 0 0] (w14.heap.size)
          refine iv7 H n1 n2 ng nc nz na ny ?_; clear n1 n2 ng nc nz na ny; intro n1 n2 ng nc nz na ny; replace HH := HH.trans H; clear H
          refine ho hKK ⟨(S.c 1 0 rfl rfl), ⟨(S.c 1 1 rfl rfl), ⟨(S.c 4 0 rfl rfl), (S.c 4 1 rfl rfl)⟩⟩⟩ fun hS => ?_
          generalize (w14.alloc (.cells #[.bool false, .slice none 0 0] 37)) = w15 at S n1 n2 ng nc nz na ny HH hS ⊢
          clear hKK KK
          refine rd 10 fun KK hKK => ?_
          have c0 := S.c 7 0 rfl rfl; have f0 := S.f 7 0 rfl; have c1 := S.c 7 1 rfl rfl; have f1 := S.f 7 1 rfl; go_simp; clear hS c0 f0 c1 f1
          have H := S.hset 7 0 (.bool (negB y)) rfl rfl (by intro q n e; cases e)
          replace S := S.set 7 0 (.bool (negB y)) rfl
          refine iv7 H n1 n2 ng nc nz na ny ?_; clear n1 n2 ng nc nz na ny; intro n1 n2 ng nc nz na ny; replace HH := HH.trans H; clear H
          have H := S.hset 7 1 (.slice py ly Ky) rfl rfl (by intro q n e; cases e)
          replace S := S.set 7 1 (.slice py ly Ky) rfl
          refine iv7 H n1 n2 ng nc nz na ny ?_; clear n1 n2 ng nc nz na ny; intro n1 n2 ng nc nz na ny; replace HH := HH.trans H; clear H
          refine ho hKK ⟨(S.c 1 0 rfl rfl), ⟨(S.c 1 1 rfl rfl), ⟨(S.c 4 0 rfl rfl), (S.c 4 1 rfl rfl)⟩⟩⟩ fun hS => ?_
          generalize ((w15.setCell ⟨w13.heap.size, 0, none⟩ (.bool (negB y))).setCell ⟨w13.heap.size, 1, none⟩ (.slice py ly Ky)) = w16 at S n1 n2 ng nc nz na ny HH hS ⊢
          clear hKK KK
          refine rd 11 fun KK hKK => ?_
          have c0 := S.c 8 0 rfl rfl; have f0 := S.f 8 0 rfl; have c1 := S.c 8 1 rfl rfl; have f1 := S.f 8 1 rfl; go_simp; clear hS c0 f0 c1 f1
          have H := S.hset 8 0 (.bool (negB yr)) rfl rfl (by intro q n e; cases e)
          replace S := S.set 8 0 (.bool (negB yr)) rfl
          refine iv7 H n1 n2 ng nc nz na ny ?_; clear n1 n2 ng nc nz na ny; intro n1 n2 ng nc nz na ny; replace HH := HH.trans H; clear H
          have H := S.hset 8 1 (.slice pv lv Kv) rfl rfl (by intro q n e; cases e)
          replace S := S.set 8 1 (.slice pv lv Kv) rfl
          refine iv7 H n1 n2 ng nc nz na ny ?_; clear n1 n2 ng nc nz na ny; intro n1 n2 ng nc nz na ny; replace HH := HH.trans H; clear H
          refine ho hKK ⟨(S.c 1 0 rfl rfl), ⟨(S.c 1 1 rfl rfl), ⟨(S.c 4 0 rfl rfl), (S.c 4 1 rfl rfl)⟩⟩⟩ fun hS => ?_
          generalize ((w16.setCell ⟨w14.heap.size, 0, none⟩ (.bool (negB yr))).setCell ⟨w14.heap.size, 1, none⟩ (.slice pv lv Kv)) = w17 at S n1 n2 ng nc nz na ny HH hS ⊢
          clear hKK KK
          refine rd 12 fun KK hKK => ?_
          go_simp
          refine ho hKK hS fun hS => ?_
          clear hKK KK
          refine wpAnyH_done (by kernel_rfl) ?_ _
          go_wp2_with fail
          go_meet
          case rel => exact ⟨w13.heap.size, py, ly, Ky, rfl, S.sub (.cons_cons _ (.cons_cons _ (.cons_cons _ (.cons_cons _ (.cons_cons _ (.cons_cons _ (.cons_cons _ (.cons_cons _ (.cons _ (.slnil)))))))))), ny, HH⟩
        ·
          go_simp; clear hS
          have H := S.hnew 37 [.bool false, .slice none 0 0]
          replace S := S.al 37 [.bool false, .slice none 0 0] (w13.heap.size)
          refine iv7 H n1 n2 ng nc nz na ny ?_; clear n1 n2 ng nc nz na ny; intro n1 n2 ng nc nz na ny; replace HH := HH.trans H; clear H
          refine ho hKK ⟨(S.c 1 0 rfl rfl), ⟨(S.c 1 1 rfl rfl), ⟨(S.c 4 0 rfl rfl), (S.c 4 1 rfl rfl)⟩⟩⟩ fun hS => ?_
          generalize (w13.alloc (.cells #[.bool false, .slice none 0 0] 37)) = w18 at S n1 n2 ng nc nz na ny HH hS ⊢
          clear hKK KK
          refine rd 8 fun KK hKK => ?_
          go_simp; clear hS
          have H := S.hnew 37 [.bool false, .slice none 0 0]
          replace S := S.al 37 [.bool false, .slice none 0 0] (w18.heap.size)
          refine iv7 H n1 n2 ng nc nz na ny ?_; clear n1 n2 ng nc nz na ny; intro n1 n2 ng nc nz na ny; replace HH := HH.trans H; clear H
          refine ho hKK ⟨(S.c 1 0 rfl rfl), ⟨(S.c 1 1 rfl rfl), ⟨(S.c 4 0 rfl rfl), (S.c 4 1 rfl rfl)⟩⟩⟩ fun hS => ?_
          generalize (w18.alloc (.cells #[.bool false, .slice none 0 0] 37)) = w19 at S n1 n2 ng nc nz na ny HH hS ⊢
          clear hKK KK
          refine rd 10 fun KK hKK => ?_
          have c0 := S.c 8 0 rfl rfl; have f0 := S.f 8 0 rfl; have c1 := S.c 8 1 rfl rfl; have f1 := S.f 8 1 rfl; go_simp; clear hS c0 f0 c1 f1
          have H := S.hset 8 0 (.bool (negB y)) rfl rfl (by intro q n e; cases e)
          replace S := S.set 8 0 (.bool (negB y)) rfl
          refine iv7 H n1 n2 ng nc nz na ny ?_; clear n1 n2 ng nc nz na ny; intro n1 n2 ng nc nz na ny; replace HH := HH.trans H; clear H
          have H := S.hset 8 1 (.slice py ly Ky) rfl rfl (by intro q n e; cases e)
          replace S := S.set 8 1 (.slice py ly Ky) rfl
          refine iv7 H n1 n2 ng nc nz na ny ?_; clear n1 n2 ng nc nz na ny; intro n1 n2 ng nc nz na ny; replace HH := HH.trans H; clear H
          refine ho hKK ⟨(S.c 1 0 rfl rfl), ⟨(S.c 1 1 rfl rfl), ⟨(S.c 4 0 rfl rfl), (S.c 4 1 rfl rfl)⟩⟩⟩ fun hS => ?_
          generalize ((w19.setCell ⟨w18.heap.size, 0, none⟩ (.bool (negB y))).setCell ⟨w18.heap.size, 1, none⟩ (.slice py ly Ky)) = w20 at S n1 n2 ng nc nz na ny HH hS ⊢
          clear hKK KK
          refine rd 11 fun KK hKK => ?_
          have c0 := S.c 7 0 rfl rfl; have f0 := S.f 7 0 rfl; have c1 := S.c 7 1 rfl rfl; have f1 := S.f 7 1 rfl; go_simp; clear hS c0 f0 c1 f1
          have H := S.hset 7 0 (.bool (negB yr)) rfl rfl (by intro q n e; cases e)
          replace S := S.set 7 0 (.bool (negB yr)) rfl
          refine iv7 H n1 n2 ng nc nz na ny ?_; clear n1 n2 ng nc nz na ny; intro n1 n2 ng nc nz na ny; replace HH := HH.trans H; clear H
          have H := S.hset 7 1 (.slice pv lv Kv) rfl rfl (by intro q n e; cases e)
          replace S := S.set 7 1 (.slice pv lv Kv) rfl
          refine iv7 H n1 n2 ng nc nz na ny ?_; clear n1 n2 ng nc nz na ny; intro n1 n2 ng nc nz na ny; replace HH := HH.trans H; clear H
          refine ho hKK ⟨(S.c 1 0 rfl rfl), ⟨(S.c 1 1 rfl rfl), ⟨(S.c 4 0 rfl rfl), (S.c 4 1 rfl rfl)⟩⟩⟩ fun hS => ?_
          generalize ((w20.setCell ⟨w13.heap.size, 0, none⟩ (.bool (negB yr))).setCell ⟨w13.heap.size, 1, none⟩ (.slice pv lv Kv)) = w21 at S n1 n2 ng nc nz na ny HH hS ⊢
          clear hKK KK
          refine rd 12 fun KK hKK => ?_
          go_simp
          refine ho hKK hS fun hS => ?_
          clear hKK KK
          refine wpAnyH_done (by kernel_rfl) ?_ _
          go_wp2_with fail
          go_meet
          case rel => exact ⟨w18.heap.size, py, ly, Ky, rfl, S.sub (.cons_cons _ (.cons_cons _ (.cons_cons _ (.cons_cons _ (.cons_cons _ (.cons_cons _ (.cons_cons _ (.cons _ (.cons_cons _ (.slnil)))))))))), ny, HH⟩
      ·
        go_simp; clear hS
        have H := S.hnew 37 [.bool false, .slice none 0 0]
        replace S := S.al 37 [.bool false, .slice none 0 0] (w12.heap.size)
        refine iv6 H n1 n2 ng nc nz na ?_; clear n1 n2 ng nc nz na; intro n1 n2 ng nc nz na; replace HH := HH.trans H; clear H
        refine ho hKK ⟨(S.c 1 0 rfl rfl), ⟨(S.c 1 1 rfl rfl), ⟨(S.c 4 0 rfl rfl), (S.c 4 1 rfl rfl)⟩⟩⟩ fun hS => ?_
        generalize (w12.alloc (.cells #[.bool false, .slice none 0 0] 37)) = w22 at S n1 n2 ng nc nz na HH hS ⊢
        clear hKK KK
        refine wpAnyH_ready (rs := [3, 9]) (by kernel_rfl) (by simp) (AllReadyH.cons (opOf rfl) (fun KK hKK => ?_) (AllReadyH.cons (opOf rfl) (fun KK hKK => ?_) AllReadyH.nil))
        ·
          go_simp; clear hS
          refine (S.call (wdiv_to ⟨_, _, _, rfl, na⟩ ⟨_, _, _, rfl, nc⟩ HD.out.2.2.2.1 HG.out.2.1 y yr HG.out.2.2 HZ.out.2.2.1 HZ.out.2.2.2)).mono ?_
          clear S
          rintro e w23 ⟨⟨_, _, rfl, ⟨py, ly, Ky, rfl, ny⟩, ⟨pv, lv, Kv, rfl, nv⟩⟩, S, H⟩
          refine iv6 H n1 n2 ng nc nz na ?_; clear n1 n2 ng nc nz na; intro n1 n2 ng nc nz na; replace HH := HH.trans H; clear H
          go_wp2_with fail
          refine ho hKK ⟨(S.c 1 0 rfl rfl), ⟨(S.c 1 1 rfl rfl), ⟨(S.c 4 0 rfl rfl), (S.c 4 1 rfl rfl)⟩⟩⟩ fun hS => ?_
          clear hKK KK
          refine tk 4 hS ?_
          refine tk 5 hS ?_
          refine tk 6 hS ?_
          refine tk 7 hS ?_
          refine rd 9 fun KK hKK => ?_
          go_simp; clear hS
          have H := S.hnew 37 [.bool false, .slice none 0 0]
          replace S := S.al 37 [.bool false, .slice none 0 0] (w23.heap.size)
          refine iv7 H n1 n2 ng nc nz na ny ?_; clear n1 n2 ng nc nz na ny; intro n1 n2 ng nc nz na ny; replace HH := HH.trans H; clear H
          refine ho hKK ⟨(S.c 1 0 rfl rfl), ⟨(S.c 1 1 rfl rfl), ⟨(S.c 4 0 rfl rfl), (S.c 4 1 rfl rfl)⟩⟩⟩ fun hS => ?_
          generalize (w23.alloc (.cells #[.bool false, .slice none 0 0] 37)) = w24 at S n1 n2 ng nc nz na ny HH hS ⊢
          clear hKK KK
          refine rd 10 fun KK hKK => ?_
          have c0 := S.c 7 0 rfl rfl; have f0 := S.f 7 0 rfl; have c1 := S.c 7 1 rfl rfl; have f1 := S.f 7 1 rfl; go_simp; clear hS c0 f0 c1 f1
          have H := S.hset 7 0 (.bool (negB y)) rfl rfl (by intro q n e; cases e)
          replace S := S.set 7 0 (.bool (negB y)) rfl
          refine iv7 H n1 n2 ng nc nz na ny ?_; clear n1 n2 ng nc nz na ny; intro n1 n2 ng nc nz na ny; replace HH := HH.trans H; clear H
          have H := S.hset 7 1 (.slice py ly Ky) rfl rfl (by intro q n e; cases e)
          replace S := S.set 7 1 (.slice py ly Ky) rfl
          refine iv7 H n1 n2 ng nc nz na ny ?_; clear n1 n2 ng nc nz na ny; intro n1 n2 ng nc nz na ny; replace HH := HH.trans H; clear H
          refine ho hKK ⟨(S.c 1 0 rfl rfl), ⟨(S.c 1 1 rfl rfl), ⟨(S.c 4 0 rfl rfl), (S.c 4 1 rfl rfl)⟩⟩⟩ fun hS => ?_
          generalize ((w24.setCell ⟨w12.heap.size, 0, none⟩ (.bool (negB y))).setCell ⟨w12.heap.size, 1, none⟩ (.slice py ly Ky)) = w25 at S n1 n2 ng nc nz na ny HH hS ⊢
          clear hKK KK
          refine rd 11 fun KK hKK => ?_
          have c0 := S.c 8 0 rfl rfl; have f0 := S.f 8 0 rfl; have c1 := S.c 8 1 rfl rfl; have f1 := S.f 8 1 rfl; go_simp; clear hS c0 f0 c1 f1
          have H := S.hset 8 0 (.bool (negB yr)) rfl rfl (by intro q n e; cases e)
          replace S := S.set 8 0 (.bool (negB yr)) rfl
          refine iv7 H n1 n2 ng nc nz na ny ?_; clear n1 n2 ng nc nz na ny; intro n1 n2 ng nc nz na ny; replace HH := HH.trans H; clear H
          have H := S.hset 8 1 (.slice pv lv Kv) rfl rfl (by intro q n e; cases e)
          replace S := S.set 8 1 (.slice pv lv Kv) rfl
          refine iv7 H n1 n2 ng nc nz na ny ?_; clear n1 n2 ng nc nz na ny; intro n1 n2 ng nc nz na ny; replace HH := HH.trans H; clear H
          refine ho hKK ⟨(S.c 1 0 rfl rfl), ⟨(S.c 1 1 rfl rfl), ⟨(S.c 4 0 rfl rfl), (S.c 4 1 rfl rfl)⟩⟩⟩ fun hS => ?_
          generalize ((w25.setCell ⟨w23.heap.size, 0, none⟩ (.bool (negB yr))).setCell ⟨w23.heap.size, 1, none⟩ (.slice pv lv Kv)) = w26 at S n1 n2 ng nc nz na ny HH hS ⊢
          clear hKK KK
          refine rd 12 fun KK hKK => ?_
          go_simp
          refine ho hKK hS fun hS => ?_
          clear hKK KK
          refine wpAnyH_done (by kernel_rfl) ?_ _
          go_wp2_with fail
          go_meet
          case rel => exact ⟨w12.heap.size, py, ly, Ky, rfl, S.sub (.cons_cons _ (.cons_cons _ (.cons_cons _ (.cons_cons _ (.cons_cons _ (.cons_cons _ (.cons_cons _ (.cons_cons _ (.cons _ (.slnil)))))))))), ny, HH⟩
        ·
          go_simp; clear hS
          have H := S.hnew 37 [.bool false, .slice none 0 0]
          replace S := S.al 37 [.bool false, .slice none 0 0] (w22.heap.size)
          refine iv6 H n1 n2 ng nc nz na ?_; clear n1 n2 ng nc nz na; intro n1 n2 ng nc nz na; replace HH := HH.trans H; clear H
          refine ho hKK ⟨(S.c 1 0 rfl rfl), ⟨(S.c 1 1 rfl rfl), ⟨(S.c 4 0 rfl rfl), (S.c 4 1 rfl rfl)⟩⟩⟩ fun hS => ?_
          generalize (w22.alloc (.cells #[.bool false, .slice none 0 0] 37)) = w27 at S n1 n2 ng nc nz na HH hS ⊢
          clear hKK KK
          refine rd 3 fun KK hKK => ?_
          go_simp; clear hS
          refine (S.call (wdiv_to ⟨_, _, _, rfl, na⟩ ⟨_, _, _, rfl, nc⟩ HD.out.2.2.2.1 HG.out.2.1 y yr HG.out.2.2 HZ.out.2.2.1 HZ.out.2.2.2)).mono ?_
          clear S
          rintro e w28 ⟨⟨_, _, rfl, ⟨py, ly, Ky, rfl, ny⟩, ⟨pv, lv, Kv, rfl, nv⟩⟩, S, H⟩
          refine iv6 H n1 n2 ng nc nz na ?_; clear n1 n2 ng nc nz na; intro n1 n2 ng nc nz na; replace HH := HH.trans H; clear H
          go_wp2_with fail
          refine ho hKK ⟨(S.c 1 0 rfl rfl), ⟨(S.c 1 1 rfl rfl), ⟨(S.c 4 0 rfl rfl), (S.c 4 1 rfl rfl)⟩⟩⟩ fun hS => ?_
          clear hKK KK
          refine tk 4 hS ?_
          refine tk 5 hS ?_
          refine tk 6 hS ?_
          refine tk 7 hS ?_
          refine rd 10 fun KK hKK => ?_
          have c0 := S.c 7 0 rfl rfl; have f0 := S.f 7 0 rfl; have c1 := S.c 7 1 rfl rfl; have f1 := S.f 7 1 rfl; go_simp; clear hS c0 f0 c1 f1
          have H := S.hset 7 0 (.bool (negB y)) rfl rfl (by intro q n e; cases e)
          replace S := S.set 7 0 (.bool (negB y)) rfl
          refine iv7 H n1 n2 ng nc nz na ny ?_; clear n1 n2 ng nc nz na ny; intro n1 n2 ng nc nz na ny; replace HH := HH.trans H; clear H
          have H := S.hset 7 1 (.slice py ly Ky) rfl rfl (by intro q n e; cases e)
          replace S := S.set 7 1 (.slice py ly Ky) rfl
          refine iv7 H n1 n2 ng nc nz na ny ?_; clear n1 n2 ng nc nz na ny; intro n1 n2 ng nc nz na ny; replace HH := HH.trans H; clear H
          refine ho hKK ⟨(S.c 1 0 rfl rfl), ⟨(S.c 1 1 rfl rfl), ⟨(S.c 4 0 rfl rfl), (S.c 4 1 rfl rfl)⟩⟩⟩ fun hS => ?_
          generalize ((w28.setCell ⟨w12.heap.size, 0, none⟩ (.bool (negB y))).setCell ⟨w12.heap.size, 1, none⟩ (.slice py ly Ky)) = w29 at S n1 n2 ng nc nz na ny HH hS ⊢
          clear hKK KK
          refine rd 11 fun KK hKK => ?_
          have c0 := S.c 8 0 rfl rfl; have f0 := S.f 8 0 rfl; have c1 := S.c 8 1 rfl rfl; have f1 := S.f 8 1 rfl; go_simp; clear hS c0 f0 c1 f1
          have H := S.hset 8 0 (.bool (negB yr)) rfl rfl (by intro q n e; cases e)
          replace S := S.set 8 0 (.bool (negB yr)) rfl
          refine iv7 H n1 n2 ng nc nz na ny ?_; clear n1 n2 ng nc nz na ny; intro n1 n2 ng nc nz na ny; replace HH := HH.trans H; clear H
          have H := S.hset 8 1 (.slice pv lv Kv) rfl rfl (by intro q n e; cases e)
          replace S := S.set 8 1 (.slice pv lv Kv) rfl
          refine iv7 H n1 n2 ng nc nz na ny ?_; clear n1 n2 ng nc nz na ny; intro n1 n2 ng nc nz na ny; replace HH := HH.trans H; clear H
          refine ho hKK ⟨(S.c 1 0 rfl rfl), ⟨(S.c 1 1 rfl rfl), ⟨(S.c 4 0 rfl rfl), (S.c 4 1 rfl rfl)⟩⟩⟩ fun hS => ?_
          generalize ((w29.setCell ⟨w22.heap.size, 0, none⟩ (.bool (negB yr))).setCell ⟨w22.heap.size, 1, none⟩ (.slice pv lv Kv)) = w30 at S n1 n2 ng nc nz na ny HH hS ⊢
          clear hKK KK
          refine rd 12 fun KK hKK => ?_
          go_simp
          refine ho hKK hS fun hS => ?_
          clear hKK KK
          refine wpAnyH_done (by kernel_rfl) ?_ _
          go_wp2_with fail
          go_meet
          case rel => exact ⟨w12.heap.size, py, ly, Ky, rfl, S.sub (.cons_cons _ (.cons_cons _ (.cons_cons _ (.cons_cons _ (.cons_cons _ (.cons_cons _ (.cons_cons _ (.cons_cons _ (.cons _ (.slnil)))))))))), ny, HH⟩
      ·
        go_simp; clear hS
        have H := S.hnew 37 [.bool false, .slice none 0 0]
        replace S := S.al 37 [.bool false, .slice none 0 0] (w12.heap.size)
        refine iv6 H n1 n2 ng nc nz na ?_; clear n1 n2 ng nc nz na; intro n1 n2 ng nc nz na; replace HH := HH.trans H; clear H
        refine ho hKK ⟨(S.c 1 0 rfl rfl), ⟨(S.c 1 1 rfl rfl), ⟨(S.c 4 0 rfl rfl), (S.c 4 1 rfl rfl)⟩⟩⟩ fun hS => ?_
        generalize (w12.alloc (.cells #[.bool false, .slice none 0 0] 37)) = w31 at S n1 n2 ng nc nz na HH hS ⊢
        clear hKK KK
        refine wpAnyH_ready (rs := [3, 8]) (by kernel_rfl) (by simp) (AllReadyH.cons (opOf rfl) (fun KK hKK => ?_) (AllReadyH.cons (opOf rfl) (fun KK hKK => ?_) AllReadyH.nil))
        ·
          go_simp; clear hS
          refine (S.call (wdiv_to ⟨_, _, _, rfl, na⟩ ⟨_, _, _, rfl, nc⟩ HD.out.2.2.2.1 HG.out.2.1 y yr HG.out.2.2 HZ.out.2.2.1 HZ.out.2.2.2)).mono ?_
          clear S
          rintro e w32 ⟨⟨_, _, rfl, ⟨py, ly, Ky, rfl, ny⟩, ⟨pv, lv, Kv, rfl, nv⟩⟩, S, H⟩
          refine iv6 H n1 n2 ng nc nz na ?_; clear n1 n2 ng nc nz na; intro n1 n2 ng nc nz na; replace HH := HH.trans H; clear H
          go_wp2_with fail
          refine ho hKK ⟨(S.c 1 0 rfl rfl), ⟨(S.c 1 1 rfl rfl), ⟨(S.c 4 0 rfl rfl), (S.c 4 1 rfl rfl)⟩⟩⟩ fun hS => ?_
          clear hKK KK
          refine tk 4 hS ?_
          refine tk 5 hS ?_
          refine tk 6 hS ?_
          refine tk 7 hS ?_
          refine rd 8 fun KK hKK => ?_
          go_simp; clear hS
          have H := S.hnew 37 [.bool false, .slice none 0 0]
          replace S := S.al 37 [.bool false, .slice none 0 0] (w32.heap.size)
          refine iv7 H n1 n2 ng nc nz na ny ?_; clear n1 n2 ng nc nz na ny; intro n1 n2 ng nc nz na ny; replace HH := HH.trans H; clear H
          refine ho hKK ⟨(S.c 1 0 rfl rfl), ⟨(S.c 1 1 rfl rfl), ⟨(S.c 4 0 rfl rfl), (S.c 4 1 rfl rfl)⟩⟩⟩ fun hS => ?_
          generalize (w32.alloc (.cells #[.bool false, .slice none 0 0] 37)) = w33 at S n1 n2 ng nc nz na ny HH hS ⊢
          clear hKK KK
          refine rd 10 fun KK hKK => ?_
          have c0 := S.c 8 0 rfl rfl; have f0 := S.f 8 0 rfl; have c1 := S.c 8 1 rfl rfl; have f1 := S.f 8 1 rfl; go_simp; clear hS c0 f0 c1 f1
          have H := S.hset 8 0 (.bool (negB y)) rfl rfl (by intro q n e; cases e)
          replace S := S.set 8 0 (.bool (negB y)) rfl
          refine iv7 H n1 n2 ng nc nz na ny ?_; clear n1 n2 ng nc nz na ny; intro n1 n2 ng nc nz na ny; replace HH := HH.trans H; clear H
          have H := S.hset 8 1 (.slice py ly Ky) rfl rfl (by intro q n e; cases e)
          replace S := S.set 8 1 (.slice py ly Ky) rfl
          refine iv7 H n1 n2 ng nc nz na ny ?_; clear n1 n2 ng nc nz na ny; intro n1 n2 ng nc nz na ny; replace HH := HH.trans H; clear H
          refine ho hKK ⟨(S.c 1 0 rfl rfl), ⟨(S.c 1 1 rfl rfl), ⟨(S.c 4 0 rfl rfl), (S.c 4 1 rfl rfl)⟩⟩⟩ fun hS => ?_
          generalize ((w33.setCell ⟨w32.heap.size, 0, none⟩ (.bool (negB y))).setCell ⟨w32.heap.size, 1, none⟩ (.slice py ly Ky)) = w34 at S n1 n2 ng nc nz na ny HH hS ⊢
          clear hKK KK
          refine rd 11 fun KK hKK => ?_
          have c0 := S.c 7 0 rfl rfl; have f0 := S.f 7 0 rfl; have c1 := S.c 7 1 rfl rfl; have f1 := S.f 7 1 rfl; go_simp; clear hS c0 f0 c1 f1
          have H := S.hset 7 0 (.bool (negB yr)) rfl rfl (by intro q n e; cases e)
          replace S := S.set 7 0 (.bool (negB yr)) rfl
          refine iv7 H n1 n2 ng nc nz na ny ?_; clear n1 n2 ng nc nz na ny; intro n1 n2 ng nc nz na ny; replace HH := HH.trans H; clear H
          have H := S.hset 7 1 (.slice pv lv Kv) rfl rfl (by intro q n e; cases e)
          replace S := S.set 7 1 (.slice pv lv Kv) rfl
          refine iv7 H n1 n2 ng nc nz na ny ?_; clear n1 n2 ng nc nz na ny; intro n1 n2 ng nc nz na ny; replace HH := HH.trans H; clear H
          refine ho hKK ⟨(S.c 1 0 rfl rfl), ⟨(S.c 1 1 rfl rfl), ⟨(S.c 4 0 rfl rfl), (S.c 4 1 rfl rfl)⟩⟩⟩ fun hS => ?_
          generalize ((w34.setCell ⟨w12.heap.size, 0, none⟩ (.bool (negB yr))).setCell ⟨w12.heap.size, 1, none⟩ (.slice pv lv Kv)) = w35 at S n1 n2 ng nc nz na ny HH hS ⊢
          clear hKK KK
          refine rd 12 fun KK hKK => ?_
          go_simp
          refine ho hKK hS fun hS => ?_
          clear hKK KK
          refine wpAnyH_done (by kernel_rfl) ?_ _
          go_wp2_with fail
          go_meet
          case rel => exact ⟨w32.heap.size, py, ly, Ky, rfl, S.sub (.cons_cons _ (.cons_cons _ (.cons_cons _ (.cons_cons _ (.cons_cons _ (.cons_cons _ (.cons_cons _ (.cons _ (.cons_cons _ (.slnil)))))))))), ny, HH⟩
        ·
          go_simp; clear hS
          have H := S.hnew 37 [.bool false, .slice none 0 0]
          replace S := S.al 37 [.bool false, .slice none 0 0] (w31.heap.size)
          refine iv6 H n1 n2 ng nc nz na ?_; clear n1 n2 ng nc nz na; intro n1 n2 ng nc nz na; replace HH := HH.trans H; clear H
          refine ho hKK ⟨(S.c 1 0 rfl rfl), ⟨(S.c 1 1 rfl rfl), ⟨(S.c 4 0 rfl rfl), (S.c 4 1 rfl rfl)⟩⟩⟩ fun hS => ?_
          generalize (w31.alloc (.cells #[.bool false, .slice none 0 0] 37)) = w36 at S n1 n2 ng nc nz na HH hS ⊢
          clear hKK KK
          refine rd 3 fun KK hKK => ?_
          go_simp; clear hS
          refine (S.call (wdiv_to ⟨_, _, _, rfl, na⟩ ⟨_, _, _, rfl, nc⟩ HD.out.2.2.2.1 HG.out.2.1 y yr HG.out.2.2 HZ.out.2.2.1 HZ.out.2.2.2)).mono ?_
          clear S
          rintro e w37 ⟨⟨_, _, rfl, ⟨py, ly, Ky, rfl, ny⟩, ⟨pv, lv, Kv, rfl, nv⟩⟩, S, H⟩
          refine iv6 H n1 n2 ng nc nz na ?_; clear n1 n2 ng nc nz na; intro n1 n2 ng nc nz na; replace HH := HH.trans H; clear H
          go_wp2_with fail
          refine ho hKK ⟨(S.c 1 0 rfl rfl), ⟨(S.c 1 1 rfl rfl), ⟨(S.c 4 0 rfl rfl), (S.c 4 1 rfl rfl)⟩⟩⟩ fun hS => ?_
          clear hKK KK
          refine tk 4 hS ?_
          refine tk 5 hS ?_
          refine tk 6 hS ?_
          refine tk 7 hS ?_
          refine rd 10 fun KK hKK => ?_
          have c0 := S.c 8 0 rfl rfl; have f0 := S.f 8 0 rfl; have c1 := S.c 8 1 rfl rfl; have f1 := S.f 8 1 rfl; go_simp; clear hS c0 f0 c1 f1
          have H := S.hset 8 0 (.bool (negB y)) rfl rfl (by intro q n e; cases e)
          replace S := S.set 8 0 (.bool (negB y)) rfl
          refine iv7 H n1 n2 ng nc nz na ny ?_; clear n1 n2 ng nc nz na ny; intro n1 n2 ng nc nz na ny; replace HH := HH.trans H; clear H
          have H := S.hset 8 1 (.slice py ly Ky) rfl rfl (by intro q n e; cases e)
          replace S := S.set 8 1 (.slice py ly Ky) rfl
          refine iv7 H n1 n2 ng nc nz na ny ?_; clear n1 n2 ng nc nz na ny; intro n1 n2 ng nc nz na ny; replace HH := HH.trans H; clear H
          refine ho hKK ⟨(S.c 1 0 rfl rfl), ⟨(S.c 1 1 rfl rfl), ⟨(S.c 4 0 rfl rfl), (S.c 4 1 rfl rfl)⟩⟩⟩ fun hS => ?_
          generalize ((w37.setCell ⟨w31.heap.size, 0, none⟩ (.bool (negB y))).setCell ⟨w31.heap.size, 1, none⟩ (.slice py ly Ky)) = w38 at S n1 n2 ng nc nz na ny HH hS ⊢
          clear hKK KK
          refine rd 11 fun KK hKK => ?_
          have c0 := S.c 7 0 rfl rfl; have f0 := S.f 7 0 rfl; have c1 := S.c 7 1 rfl rfl; have f1 := S.f 7 1 rfl; go_simp; clear hS c0 f0 c1 f1
          have H := S.hset 7 0 (.bool (negB yr)) rfl rfl (by intro q n e; cases e)
          replace S := S.set 7 0 (.bool (negB yr)) rfl
          refine iv7 H n1 n2 ng nc nz na ny ?_; clear n1 n2 ng nc nz na ny; intro n1 n2 ng nc nz na ny; replace HH := HH.trans H; clear H
          have H := S.hset 7 1 (.slice pv lv Kv) rfl rfl (by intro q n e; cases e)
          replace S := S.set 7 1 (.slice pv lv Kv) rfl
          refine iv7 H n1 n2 ng nc nz na ny ?_; clear n1 n2 ng nc nz na ny; intro n1 n2 ng nc nz na ny; replace HH := HH.trans H; clear H
          refine ho hKK ⟨(S.c 1 0 rfl rfl), ⟨(S.c 1 1 rfl rfl), ⟨(S.c 4 0 rfl rfl), (S.c 4 1 rfl rfl)⟩⟩⟩ fun hS => ?_
          generalize ((w38.setCell ⟨w12.heap.size, 0, none⟩ (.bool (negB yr))).setCell ⟨w12.heap.size, 1, none⟩ (.slice pv lv Kv)) = w39 at S n1 n2 ng nc nz na ny HH hS ⊢
          clear hKK KK
          refine rd 12 fun KK hKK => ?_
          go_simp
          refine ho hKK hS fun hS => ?_
          clear hKK KK
          refine wpAnyH_done (by kernel_rfl) ?_ _
          go_wp2_with fail
          go_meet
          case rel => exact ⟨w31.heap.size, py, ly, Ky, rfl, S.sub (.cons_cons _ (.cons_cons _ (.cons_cons _ (.cons_cons _ (.cons_cons _ (.cons_cons _ (.cons_cons _ (.cons _ (.cons_cons _ (.slnil)))))))))), ny, HH⟩
    ·
      go_simp; clear hS
      have H := S.hnew 37 [.bool false, .slice none 0 0]
      replace S := S.al 37 [.bool false, .slice none 0 0] (w11.heap.size)
      refine iv5 H n1 n2 ng nc nz ?_; clear n1 n2 ng nc nz; intro n1 n2 ng nc nz; replace HH := HH.trans H; clear H
      refine ho hKK ⟨(S.c 1 0 rfl rfl), ⟨(S.c 1 1 rfl rfl), ⟨(S.c 4 0 rfl rfl), (S.c 4 1 rfl rfl)⟩⟩⟩ fun hS => ?_
      generalize (w11.alloc (.cells #[.bool false, .slice none 0 0] 37)) = w40 at S n1 n2 ng nc nz HH hS ⊢
      clear hKK KK
      refine wpAnyH_ready (rs := [1, 9]) (by kernel_rfl) (by simp) (AllReadyH.cons (opOf rfl) (fun KK hKK => ?_) (AllReadyH.cons (opOf rfl) (fun KK hKK => ?_) AllReadyH.nil))
      ·
        go_simp; clear hS
        refine (S.call (wabs_any ⟨_, _, _, by rw [HD.out.2.1], n2⟩ HD.out.2.2.2.1 ((d.natAbs : Nat) : Int) rfl)).mono ?_
        clear S
        rintro e w41 ⟨⟨_, rfl, pa, la, Ka, rfl, na⟩, S, H⟩
        refine iv5 H n1 n2 ng nc nz ?_; clear n1 n2 ng nc nz; intro n1 n2 ng nc nz; replace HH := HH.trans H; clear H
        go_wp2_with fail
        refine ho hKK ⟨(S.c 1 0 rfl rfl), ⟨(S.c 1 1 rfl rfl), ⟨(S.c 4 0 rfl rfl), (S.c 4 1 rfl rfl)⟩⟩⟩ fun hS => ?_
        clear hKK KK
        refine wpAnyH_ready (rs := [3, 9]) (by kernel_rfl) (by simp) (AllReadyH.cons (opOf rfl) (fun KK hKK => ?_) (AllReadyH.cons (opOf rfl) (fun KK hKK => ?_) AllReadyH.nil))
        ·
          go_simp; clear hS
          refine (S.call (wdiv_to ⟨_, _, _, rfl, na⟩ ⟨_, _, _, rfl, nc⟩ HD.out.2.2.2.1 HG.out.2.1 y yr HG.out.2.2 HZ.out.2.2.1 HZ.out.2.2.2)).mono ?_
          clear S
          rintro e w42 ⟨⟨_, _, rfl, ⟨py, ly, Ky, rfl, ny⟩, ⟨pv, lv, Kv, rfl, nv⟩⟩, S, H⟩
          refine iv6 H n1 n2 ng nc nz na ?_; clear n1 n2 ng nc nz na; intro n1 n2 ng nc nz na; replace HH := HH.trans H; clear H
          go_wp2_with fail
          refine ho hKK ⟨(S.c 1 0 rfl rfl), ⟨(S.c 1 1 rfl rfl), ⟨(S.c 4 0 rfl rfl), (S.c 4 1 rfl rfl)⟩⟩⟩ fun hS => ?_
          clear hKK KK
          refine tk 4 hS ?_
          refine tk 5 hS ?_
          refine tk 6 hS ?_
          refine tk 7 hS ?_
          refine rd 9 fun KK hKK => ?_
          go_simp; clear hS
          have H := S.hnew 37 [.bool false, .slice none 0 0]
          replace S := S.al 37 [.bool false, .slice none 0 0] (w42.heap.size)
          refine iv7 H n1 n2 ng nc nz na ny ?_; clear n1 n2 ng nc nz na ny; intro n1 n2 ng nc nz na ny; replace HH := HH.trans H; clear H
          refine ho hKK ⟨(S.c 1 0 rfl rfl), ⟨(S.c 1 1 rfl rfl), ⟨(S.c 4 0 rfl rfl), (S.c 4 1 rfl rfl)⟩⟩⟩ fun hS => ?_
          generalize (w42.alloc (.cells #[.bool false, .slice none 0 0] 37)) = w43 at S n1 n2 ng nc nz na ny HH hS ⊢
          clear hKK KK
          refine rd 10 fun KK hKK => ?_
          have c0 := S.c 7 0 rfl rfl; have f0 := S.f 7 0 rfl; have c1 := S.c 7 1 rfl rfl; have f1 := S.f 7 1 rfl; go_simp; clear hS c0 f0 c1 f1
          have H := S.hset 7 0 (.bool (negB y)) rfl rfl (by intro q n e; cases e)
          replace S := S.set 7 0 (.bool (negB y)) rfl
          refine iv7 H n1 n2 ng nc nz na ny ?_; clear n1 n2 ng nc nz na ny; intro n1 n2 ng nc nz na ny; replace HH := HH.trans H; clear H
          have H := S.hset 7 1 (.slice py ly Ky) rfl rfl (by intro q n e; cases e)
          replace S := S.set 7 1 (.slice py ly Ky) rfl
          refine iv7 H n1 n2 ng nc nz na ny ?_; clear n1 n2 ng nc nz na ny; intro n1 n2 ng nc nz na ny; replace HH := HH.trans H; clear H
          refine ho hKK ⟨(S.c 1 0 rfl rfl), ⟨(S.c 1 1 rfl rfl), ⟨(S.c 4 0 rfl rfl), (S.c 4 1 rfl rfl)⟩⟩⟩ fun hS => ?_
          generalize ((w43.setCell ⟨w11.heap.size, 0, none⟩ (.bool (negB y))).setCell ⟨w11.heap.size, 1, none⟩ (.slice py ly Ky)) = w44 at S n1 n2 ng nc nz na ny HH hS ⊢
          clear hKK KK
          refine rd 11 fun KK hKK => ?_
          have c0 := S.c 8 0 rfl rfl; have f0 := S.f 8 0 rfl; have c1 := S.c 8 1 rfl rfl; have f1 := S.f 8 1 rfl; go_simp; clear hS c0 f0 c1 f1
          have H := S.hset 8 0 (.bool (negB yr)) rfl rfl (by intro q n e; cases e)
          replace S := S.set 8 0 (.bool (negB yr)) rfl
          refine iv7 H n1 n2 ng nc nz na ny ?_; clear n1 n2 ng nc nz na ny; intro n1 n2 ng nc nz na ny; replace HH := HH.trans H; clear H
          have H := S.hset 8 1 (.slice pv lv Kv) rfl rfl (by intro q n e; cases e)
          replace S := S.set 8 1 (.slice pv lv Kv) rfl
          refine iv7 H n1 n2 ng nc nz na ny ?_; clear n1 n2 ng nc nz na ny; intro n1 n2 ng nc nz na ny; replace HH := HH.trans H; clear H
          refine ho hKK ⟨(S.c 1 0 rfl rfl), ⟨(S.c 1 1 rfl rfl), ⟨(S.c 4 0 rfl rfl), (S.c 4 1 rfl rfl)⟩⟩⟩ fun hS => ?_
          generalize ((w44.setCell ⟨w42.heap.size, 0, none⟩ (.bool (negB yr))).setCell ⟨w42.heap.size, 1, none⟩ (.slice pv lv Kv)) = w45 at S n1 n2 ng nc nz na ny HH hS ⊢
          clear hKK KK
          refine rd 12 fun KK hKK => ?_
          go_simp
          refine ho hKK hS fun hS => ?_
          clear hKK KK
          refine wpAnyH_done (by kernel_rfl) ?_ _
          go_wp2_with fail
          go_meet
          case rel => exact ⟨w11.heap.size, py, ly, Ky, rfl, S.sub (.cons_cons _ (.cons_cons _ (.cons_cons _ (.cons_cons _ (.cons_cons _ (.cons_cons _ (.cons_cons _ (.cons_cons _ (.cons _ (.slnil)))))))))), ny, HH⟩
        ·
          go_simp; clear hS
          have H := S.hnew 37 [.bool false, .slice none 0 0]
          replace S := S.al 37 [.bool false, .slice none 0 0] (w41.heap.size)
          refine iv6 H n1 n2 ng nc nz na ?_; clear n1 n2 ng nc nz na; intro n1 n2 ng nc nz na; replace HH := HH.trans H; clear H
          refine ho hKK ⟨(S.c 1 0 rfl rfl), ⟨(S.c 1 1 rfl rfl), ⟨(S.c 4 0 rfl rfl), (S.c 4 1 rfl rfl)⟩⟩⟩ fun hS => ?_
          generalize (w41.alloc (.cells #[.bool false, .slice none 0 0] 37)) = w46 at S n1 n2 ng nc nz na HH hS ⊢
          clear hKK KK
          refine rd 3 fun KK hKK => ?_
          go_simp; clear hS
          refine (S.call (wdiv_to ⟨_, _, _, rfl, na⟩ ⟨_, _, _, rfl, nc⟩ HD.out.2.2.2.1 HG.out.2.1 y yr HG.out.2.2 HZ.out.2.2.1 HZ.out.2.2.2)).mono ?_
          clear S
          rintro e w47 ⟨⟨_, _, rfl, ⟨py, ly, Ky, rfl, ny⟩, ⟨pv, lv, Kv, rfl, nv⟩⟩, S, H⟩
          refine iv6 H n1 n2 ng nc nz na ?_; clear n1 n2 ng nc nz na; intro n1 n2 ng nc nz na; replace HH := HH.trans H; clear H
          go_wp2_with fail
          refine ho hKK ⟨(S.c 1 0 rfl rfl), ⟨(S.c 1 1 rfl rfl), ⟨(S.c 4 0 rfl rfl), (S.c 4 1 rfl rfl)⟩⟩⟩ fun hS => ?_
          clear hKK KK
          refine tk 4 hS ?_
          refine tk 5 hS ?_
          refine tk 6 hS ?_
          refine tk 7 hS ?_
          refine rd 10 fun KK hKK => ?_
          have c0 := S.c 7 0 rfl rfl; have f0 := S.f 7 0 rfl; have c1 := S.c 7 1 rfl rfl; have f1 := S.f 7 1 rfl; go_simp; clear hS c0 f0 c1 f1
          have H := S.hset 7 0 (.bool (negB y)) rfl rfl (by intro q n e; cases e)
          replace S := S.set 7 0 (.bool (negB y)) rfl
          refine iv7 H n1 n2 ng nc nz na ny ?_; clear n1 n2 ng nc nz na ny; intro n1 n2 ng nc nz na ny; replace HH := HH.trans H; clear H
          have H := S.hset 7 1 (.slice py ly Ky) rfl rfl (by intro q n e; cases e)
          replace S := S.set 7 1 (.slice py ly Ky) rfl
          refine iv7 H n1 n2 ng nc nz na ny ?_; clear n1 n2 ng nc nz na ny; intro n1 n2 ng nc nz na ny; replace HH := HH.trans H; clear H
          refine ho hKK ⟨(S.c 1 0 rfl rfl), ⟨(S.c 1 1 rfl rfl), ⟨(S.c 4 0 rfl rfl), (S.c 4 1 rfl rfl)⟩⟩⟩ fun hS => ?_
          generalize ((w47.setCell ⟨w11.heap.size, 0, none⟩ (.bool (negB y))).setCell ⟨w11.heap.size, 1, none⟩ (.slice py ly Ky)) = w48 at S n1 n2 ng nc nz na ny HH hS ⊢
          clear hKK KK
          refine rd 11 fun KK hKK => ?_
          have c0 := S.c 8 0 rfl rfl; have f0 := S.f 8 0 rfl; have c1 := S.c 8 1 rfl rfl; have f1 := S.f 8 1 rfl; go_simp; clear hS c0 f0 c1 f1
          have H := S.hset 8 0 (.bool (negB yr)) rfl rfl (by intro q n e; cases e)
          replace S := S.set 8 0 (.bool (negB yr)) rfl
          refine iv7 H n1 n2 ng nc nz na ny ?_; clear n1 n2 ng nc nz na ny; intro n1 n2 ng nc nz na ny; replace HH := HH.trans H; clear H
          have H := S.hset 8 1 (.slice pv lv Kv) rfl rfl (by intro q n e; cases e)
          replace S := S.set 8 1 (.slice pv lv Kv) rfl
          refine iv7 H n1 n2 ng nc nz na ny ?_; clear n1 n2 ng nc nz na ny; intro n1 n2 ng nc nz na ny; replace HH := HH.trans H; clear H
          refine ho hKK ⟨(S.c 1 0 rfl rfl), ⟨(S.c 1 1 rfl rfl), ⟨(S.c 4 0 rfl rfl), (S.c 4 1 rfl rfl)⟩⟩⟩ fun hS => ?_
          generalize ((w48.setCell ⟨w41.heap.size, 0, none⟩ (.bool (negB yr))).setCell ⟨w41.heap.size, 1, none⟩ (.slice pv lv Kv)) = w49 at S n1 n2 ng nc nz na ny HH hS ⊢
          clear hKK KK
          refine rd 12 fun KK hKK => ?_
          go_simp
          refine ho hKK hS fun hS => ?_
          clear hKK KK
          refine wpAnyH_done (by kernel_rfl) ?_ _
          go_wp2_with fail
          go_meet
          case rel => exact ⟨w11.heap.size, py, ly, Ky, rfl, S.sub (.cons_cons _ (.cons_cons _ (.cons_cons _ (.cons_cons _ (.cons_cons _ (.cons_cons _ (.cons_cons _ (.cons_cons _ (.cons _ (.slnil)))))))))), ny, HH⟩
      ·
        go_simp; clear hS
        have H := S.hnew 37 [.bool false, .slice none 0 0]
        replace S := S.al 37 [.bool false, .slice none 0 0] (w40.heap.size)
        refine iv5 H n1 n2 ng nc nz ?_; clear n1 n2 ng nc nz; intro n1 n2 ng nc nz; replace HH := HH.trans H; clear H
        refine ho hKK ⟨(S.c 1 0 rfl rfl), ⟨(S.c 1 1 rfl rfl), ⟨(S.c 4 0 rfl rfl), (S.c 4 1 rfl rfl)⟩⟩⟩ fun hS => ?_
        generalize (w40.alloc (.cells #[.bool false, .slice none 0 0] 37)) = w50 at S n1 n2 ng nc nz HH hS ⊢
        clear hKK KK
        refine rd 1 fun KK hKK => ?_
        go_simp; clear hS
        refine (S.call (wabs_any ⟨_, _, _, by rw [HD.out.2.1], n2⟩ HD.out.2.2.2.1 ((d.natAbs : Nat) : Int) rfl)).mono ?_
        clear S
        rintro e w51 ⟨⟨_, rfl, pa, la, Ka, rfl, na⟩, S, H⟩
        refine iv5 H n1 n2 ng nc nz ?_; clear n1 n2 ng nc nz; intro n1 n2 ng nc nz; replace HH := HH.trans H; clear H
        go_wp2_with fail
        refine ho hKK ⟨(S.c 1 0 rfl rfl), ⟨(S.c 1 1 rfl rfl), ⟨(S.c 4 0 rfl rfl), (S.c 4 1 rfl rfl)⟩⟩⟩ fun hS => ?_
        clear hKK KK
        refine rd 3 fun KK hKK => ?_
        go_simp; clear hS
        refine (S.call (wdiv_to ⟨_, _, _, rfl, na⟩ ⟨_, _, _, rfl, nc⟩ HD.out.2.2.2.1 HG.out.2.1 y yr HG.out.2.2 HZ.out.2.2.1 HZ.out.2.2.2)).mono ?_
        clear S
        rintro e w52 ⟨⟨_, _, rfl, ⟨py, ly, Ky, rfl, ny⟩, ⟨pv, lv, Kv, rfl, nv⟩⟩, S, H⟩
        refine iv6 H n1 n2 ng nc nz na ?_; clear n1 n2 ng nc nz na; intro n1 n2 ng nc nz na; replace HH := HH.trans H; clear H
        go_wp2_with fail
        refine ho hKK ⟨(S.c 1 0 rfl rfl), ⟨(S.c 1 1 rfl rfl), ⟨(S.c 4 0 rfl rfl), (S.c 4 1 rfl rfl)⟩⟩⟩ fun hS => ?_
        clear hKK KK
        refine tk 4 hS ?_
        refine tk 5 hS ?_
        refine tk 6 hS ?_
        refine tk 7 hS ?_
        refine rd 10 fun KK hKK => ?_
        have c0 := S.c 7 0 rfl rfl; have f0 := S.f 7 0 rfl; have c1 := S.c 7 1 rfl rfl; have f1 := S.f 7 1 rfl; go_simp; clear hS c0 f0 c1 f1
        have H := S.hset 7 0 (.bool (negB y)) rfl rfl (by intro q n e; cases e)
        replace S := S.set 7 0 (.bool (negB y)) rfl
        refine iv7 H n1 n2 ng nc nz na ny ?_; clear n1 n2 ng nc nz na ny; intro n1 n2 ng nc nz na ny; replace HH := HH.trans H; clear H
        have H := S.hset 7 1 (.slice py ly Ky) rfl rfl (by intro q n e; cases e)
        replace S := S.set 7 1 (.slice py ly Ky) rfl
        refine iv7 H n1 n2 ng nc nz na ny ?_; clear n1 n2 ng nc nz na ny; intro n1 n2 ng nc nz na ny; replace HH := HH.trans H; clear H
        refine ho hKK ⟨(S.c 1 0 rfl rfl), ⟨(S.c 1 1 rfl rfl), ⟨(S.c 4 0 rfl rfl), (S.c 4 1 rfl rfl)⟩⟩⟩ fun hS => ?_
        generalize ((w52.setCell ⟨w11.heap.size, 0, none⟩ (.bool (negB y))).setCell ⟨w11.heap.size, 1, none⟩ (.slice py ly Ky)) = w53 at S n1 n2 ng nc nz na ny HH hS ⊢
        clear hKK KK
        refine rd 11 fun KK hKK => ?_
        have c0 := S.c 8 0 rfl rfl; have f0 := S.f 8 0 rfl; have c1 := S.c 8 1 rfl rfl; have f1 := S.f 8 1 rfl; go_simp; clear hS c0 f0 c1 f1
        have H := S.hset 8 0 (.bool (negB yr)) rfl rfl (by intro q n e; cases e)
        replace S := S.set 8 0 (.bool (negB yr)) rfl
        refine iv7 H n1 n2 ng nc nz na ny ?_; clear n1 n2 ng nc nz na ny; intro n1 n2 ng nc nz na ny; replace HH := HH.trans H; clear H
        have H := S.hset 8 1 (.slice pv lv Kv) rfl rfl (by intro q n e; cases e)
        replace S := S.set 8 1 (.slice pv lv Kv) rfl
        refine iv7 H n1 n2 ng nc nz na ny ?_; clear n1 n2 ng nc nz na ny; intro n1 n2 ng nc nz na ny; replace HH := HH.trans H; clear H
        refine ho hKK ⟨(S.c 1 0 rfl rfl), ⟨(S.c 1 1 rfl rfl), ⟨(S.c 4 0 rfl rfl), (S.c 4 1 rfl rfl)⟩⟩⟩ fun hS => ?_
        generalize ((w53.setCell ⟨w40.heap.size, 0, none⟩ (.bool (negB yr))).setCell ⟨w40.heap.size, 1, none⟩ (.slice pv lv Kv)) = w54 at S n1 n2 ng nc nz na ny HH hS ⊢
        clear hKK KK
        refine rd 12 fun KK hKK => ?_
        go_simp
        refine ho hKK hS fun hS => ?_
        clear hKK KK
        refine wpAnyH_done (by kernel_rfl) ?_ _
        go_wp2_with fail
        go_meet
        case rel => exact ⟨w11.heap.size, py, ly, Ky, rfl, S.sub (.cons_cons _ (.cons_cons _ (.cons_cons _ (.cons_cons _ (.cons_cons _ (.cons_cons _ (.cons_cons _ (.cons_cons _ (.cons _ (.slnil)))))))))), ny, HH⟩
    ·
      go_simp; clear hS
      have H := S.hnew 37 [.bool false, .slice none 0 0]
      replace S := S.al 37 [.bool false, .slice none 0 0] (w11.heap.size)
      refine iv5 H n1 n2 ng nc nz ?_; clear n1 n2 ng nc nz; intro n1 n2 ng nc nz; replace HH := HH.trans H; clear H
      refine ho hKK ⟨(S.c 1 0 rfl rfl), ⟨(S.c 1 1 rfl rfl), ⟨(S.c 4 0 rfl rfl), (S.c 4 1 rfl rfl)⟩⟩⟩ fun hS => ?_
      generalize (w11.alloc (.cells #[.bool false, .slice none 0 0] 37)) = w55 at S n1 n2 ng nc nz HH hS ⊢
      clear hKK KK
      refine wpAnyH_ready (rs := [1, 8]) (by kernel_rfl) (by simp) (AllReadyH.cons (opOf rfl) (fun KK hKK => ?_) (AllReadyH.cons (opOf rfl) (fun KK hKK => ?_) AllReadyH.nil))
      ·
        go_simp; clear hS
        refine (S.call (wabs_any ⟨_, _, _, by rw [HD.out.2.1], n2⟩ HD.out.2.2.2.1 ((d.natAbs : Nat) : Int) rfl)).mono ?_
        clear S
        rintro e w56 ⟨⟨_, rfl, pa, la, Ka, rfl, na⟩, S, H⟩
        refine iv5 H n1 n2 ng nc nz ?_; clear n1 n2 ng nc nz; intro n1 n2 ng nc nz; replace HH := HH.trans H; clear H
        go_wp2_with fail
        refine ho hKK ⟨(S.c 1 0 rfl rfl), ⟨(S.c 1 1 rfl rfl), ⟨(S.c 4 0 rfl rfl), (S.c 4 1 rfl rfl)⟩⟩⟩ fun hS => ?_
        clear hKK KK
        refine wpAnyH_ready (rs := [3, 8]) (by kernel_rfl) (by simp) (AllReadyH.cons (opOf rfl) (fun KK hKK => ?_) (AllReadyH.cons (opOf rfl) (fun KK hKK => ?_) AllReadyH.nil))
        ·
          go_simp; clear hS
          refine (S.call (wdiv_to ⟨_, _, _, rfl, na⟩ ⟨_, _, _, rfl, nc⟩ HD.out.2.2.2.1 HG.out.2.1 y yr HG.out.2.2 HZ.out.2.2.1 HZ.out.2.2.2)).mono ?_
          clear S
          rintro e w57 ⟨⟨_, _, rfl, ⟨py, ly, Ky, rfl, ny⟩, ⟨pv, lv, Kv, rfl, nv⟩⟩, S, H⟩
          refine iv6 H n1 n2 ng nc nz na ?_; clear n1 n2 ng nc nz na; intro n1 n2 ng nc nz na; replace HH := HH.trans H; clear H
          go_wp2_with fail
          refine ho hKK ⟨(S.c 1 0 rfl rfl), ⟨(S.c 1 1 rfl rfl), ⟨(S.c 4 0 rfl rfl), (S.c 4 1 rfl rfl)⟩⟩⟩ fun hS => ?_
          clear hKK KK
          refine tk 4 hS ?_
          refine tk 5 hS ?_
          refine tk 6 hS ?_
          refine tk 7 hS ?_
          refine rd 8 fun KK hKK => ?_
          go_simp; clear hS
          have H := S.hnew 37 [.bool false, .slice none 0 0]
          replace S := S.al 37 [.bool false, .slice none 0 0] (w57.heap.size)
          refine iv7 H n1 n2 ng nc nz na ny ?_; clear n1 n2 ng nc nz na ny; intro n1 n2 ng nc nz na ny; replace HH := HH.trans H; clear H
          refine ho hKK ⟨(S.c 1 0 rfl rfl), ⟨(S.c 1 1 rfl rfl), ⟨(S.c 4 0 rfl rfl), (S.c 4 1 rfl rfl)⟩⟩⟩ fun hS => ?_
          generalize (w57.alloc (.cells #[.bool false, .slice none 0 0] 37)) = w58 at S n1 n2 ng nc nz na ny HH hS ⊢
          clear hKK KK
          refine rd 10 fun KK hKK => ?_
          have c0 := S.c 8 0 rfl rfl; have f0 := S.f 8 0 rfl; have c1 := S.c 8 1 rfl rfl; have f1 := S.f 8 1 rfl; go_simp; clear hS c0 f0 c1 f1
          have H := S.hset 8 0 (.bool (negB y)) rfl rfl (by intro q n e; cases e)
          replace S := S.set 8 0 (.bool (negB y)) rfl
          refine iv7 H n1 n2 ng nc nz na ny ?_; clear n1 n2 ng nc nz na ny; intro n1 n2 ng nc nz na ny; replace HH := HH.trans H; clear H
          have H := S.hset 8 1 (.slice py ly Ky) rfl rfl (by intro q n e; cases e)
          replace S := S.set 8 1 (.slice py ly Ky) rfl
          refine iv7 H n1 n2 ng nc nz na ny ?_; clear n1 n2 ng nc nz na ny; intro n1 n2 ng nc nz na ny; replace HH := HH.trans H; clear H
          refine ho hKK ⟨(S.c 1 0 rfl rfl), ⟨(S.c 1 1 rfl rfl), ⟨(S.c 4 0 rfl rfl), (S.c 4 1 rfl rfl)⟩⟩⟩ fun hS => ?_
          generalize ((w58.setCell ⟨w57.heap.size, 0, none⟩ (.bool (negB y))).setCell ⟨w57.heap.size, 1, none⟩ (.slice py ly Ky)) = w59 at S n1 n2 ng nc nz na ny HH hS ⊢
          clear hKK KK
          refine rd 11 fun KK hKK => ?_
          have c0 := S.c 7 0 rfl rfl; have f0 := S.f 7 0 rfl; have c1 := S.c 7 1 rfl rfl; have f1 := S.f 7 1 rfl; go_simp; clear hS c0 f0 c1 f1
          have H := S.hset 7 0 (.bool (negB yr)) rfl rfl (by intro q n e; cases e)
          replace S := S.set 7 0 (.bool (negB yr)) rfl
          refine iv7 H n1 n2 ng nc nz na ny ?_; clear n1 n2 ng nc nz na ny; intro n1 n2 ng nc nz na ny; replace HH := HH.trans H; clear H
          have H := S.hset 7 1 (.slice pv lv Kv) rfl rfl (by intro q n e; cases e)
          replace S := S.set 7 1 (.slice pv lv Kv) rfl
          refine iv7 H n1 n2 ng nc nz na ny ?_; clear n1 n2 ng nc nz na ny; intro n1 n2 ng nc nz na ny; replace HH := HH.trans H; clear H
          refine ho hKK ⟨(S.c 1 0 rfl rfl), ⟨(S.c 1 1 rfl rfl), ⟨(S.c 4 0 rfl rfl), (S.c 4 1 rfl rfl)⟩⟩⟩ fun hS => ?_
          generalize ((w59.setCell ⟨w11.heap.size, 0, none⟩ (.bool (negB yr))).setCell ⟨w11.heap.size, 1, none⟩ (.slice pv lv Kv)) = w60 at S n1 n2 ng nc nz na ny HH hS ⊢
          clear hKK KK
          refine rd 12 fun KK hKK => ?_
          go_simp
          refine ho hKK hS fun hS => ?_
          clear hKK KK
          refine wpAnyH_done (by kernel_rfl) ?_ _
          go_wp2_with fail
          go_meet
          case rel => exact ⟨w57.heap.size, py, ly, Ky, rfl, S.sub (.cons_cons _ (.cons_cons _ (.cons_cons _ (.cons_cons _ (.cons_cons _ (.cons_cons _ (.cons_cons _ (.cons _ (.cons_cons _ (.slnil)))))))))), ny, HH⟩
        ·
          go_simp; clear hS
          have H := S.hnew 37 [.bool false, .slice none 0 0]
          replace S := S.al 37 [.bool false, .slice none 0 0] (w56.heap.size)
          refine iv6 H n1 n2 ng nc nz na ?_; clear n1 n2 ng nc nz na; intro n1 n2 ng nc nz na; replace HH := HH.trans H; clear H
          refine ho hKK ⟨(S.c 1 0 rfl rfl), ⟨(S.c 1 1 rfl rfl), ⟨(S.c 4 0 rfl rfl), (S.c 4 1 rfl rfl)⟩⟩⟩ fun hS => ?_
          generalize (w56.alloc (.cells #[.bool false, .slice none 0 0] 37)) = w61 at S n1 n2 ng nc nz na HH hS ⊢
          clear hKK KK
          refine rd 3 fun KK hKK => ?_
          go_simp; clear hS
          refine (S.call (wdiv_to ⟨_, _, _, rfl, na⟩ ⟨_, _, _, rfl, nc⟩ HD.out.2.2.2.1 HG.out.2.1 y yr HG.out.2.2 HZ.out.2.2.1 HZ.out.2.2.2)).mono ?_
          clear S
          rintro e w62 ⟨⟨_, _, rfl, ⟨py, ly, Ky, rfl, ny⟩, ⟨pv, lv, Kv, rfl, nv⟩⟩, S, H⟩
          refine iv6 H n1 n2 ng nc nz na ?_; clear n1 n2 ng nc nz na; intro n1 n2 ng nc nz na; replace HH := HH.trans H; clear H
          go_wp2_with fail
          refine ho hKK ⟨(S.c 1 0 rfl rfl), ⟨(S.c 1 1 rfl rfl), ⟨(S.c 4 0 rfl rfl), (S.c 4 1 rfl rfl)⟩⟩⟩ fun hS => ?_
          clear hKK KK
          refine tk 4 hS ?_
          refine tk 5 hS ?_
          refine tk 6 hS ?_
          refine tk 7 hS ?_
          refine rd 10 fun KK hKK => ?_
          have c0 := S.c 8 0 rfl rfl; have f0 := S.f 8 0 rfl; have c1 := S.c 8 1 rfl rfl; have f1 := S.f 8 1 rfl; go_simp; clear hS c0 f0 c1 f1
          have H := S.hset 8 0 (.bool (negB y)) rfl rfl (by intro q n e; cases e)
          replace S := S.set 8 0 (.bool (negB y)) rfl
          refine iv7 H n1 n2 ng nc nz na ny ?_; clear n1 n2 ng nc nz na ny; intro n1 n2 ng nc nz na ny; replace HH := HH.trans H; clear H
          have H := S.hset 8 1 (.slice py ly Ky) rfl rfl (by intro q n e; cases e)
          replace S := S.set 8 1 (.slice py ly Ky) rfl
          refine iv7 H n1 n2 ng nc nz na ny ?_; clear n1 n2 ng nc nz na ny; intro n1 n2 ng nc nz na ny; replace HH := HH.trans H; clear H
          refine ho hKK ⟨(S.c 1 0 rfl rfl), ⟨(S.c 1 1 rfl rfl), ⟨(S.c 4 0 rfl rfl), (S.c 4 1 rfl rfl)⟩⟩⟩ fun hS => ?_
          generalize ((w62.setCell ⟨w56.heap.size, 0, none⟩ (.bool (negB y))).setCell ⟨w56.heap.size, 1, none⟩ (.slice py ly Ky)) = w63 at S n1 n2 ng nc nz na ny HH hS ⊢
          clear hKK KK
          refine rd 11 fun KK hKK => ?_
          have c0 := S.c 7 0 rfl rfl; have f0 := S.f 7 0 rfl; have c1 := S.c 7 1 rfl rfl; have f1 := S.f 7 1 rfl; go_simp; clear hS c0 f0 c1 f1
          have H := S.hset 7 0 (.bool (negB yr)) rfl rfl (by intro q n e; cases e)
          replace S := S.set 7 0 (.bool (negB yr)) rfl
          refine iv7 H n1 n2 ng nc nz na ny ?_; clear n1 n2 ng nc nz na ny; intro n1 n2 ng nc nz na ny; replace HH := HH.trans H; clear H
          have H := S.hset 7 1 (.slice pv lv Kv) rfl rfl (by intro q n e; cases e)
          replace S := S.set 7 1 (.slice pv lv Kv) rfl
          refine iv7 H n1 n2 ng nc nz na ny ?_; clear n1 n2 ng nc nz na ny; intro n1 n2 ng nc nz na ny; replace HH := HH.trans H; clear H
          refine ho hKK ⟨(S.c 1 0 rfl rfl), ⟨(S.c 1 1 rfl rfl), ⟨(S.c 4 0 rfl rfl), (S.c 4 1 rfl rfl)⟩⟩⟩ fun hS => ?_
          generalize ((w63.setCell ⟨w11.heap.size, 0, none⟩ (.bool (negB yr))).setCell ⟨w11.heap.size, 1, none⟩ (.slice pv lv Kv)) = w64 at S n1 n2 ng nc nz na ny HH hS ⊢
          clear hKK KK
          refine rd 12 fun KK hKK => ?_
          go_simp
          refine ho hKK hS fun hS => ?_
          clear hKK KK
          refine wpAnyH_done (by kernel_rfl) ?_ _
          go_wp2_with fail
          go_meet
          case rel => exact ⟨w56.heap.size, py, ly, Ky, rfl, S.sub (.cons_cons _ (.cons_cons _ (.cons_cons _ (.cons_cons _ (.cons_cons _ (.cons_cons _ (.cons_cons _ (.cons _ (.cons_cons _ (.slnil)))))))))), ny, HH⟩
      ·
        go_simp; clear hS
        have H := S.hnew 37 [.bool false, .slice none 0 0]
        replace S := S.al 37 [.bool false, .slice none 0 0] (w55.heap.size)
        refine iv5 H n1 n2 ng nc nz ?_; clear n1 n2 ng nc nz; intro n1 n2 ng nc nz; replace HH := HH.trans H; clear H
        refine ho hKK ⟨(S.c 1 0 rfl rfl), ⟨(S.c 1 1 rfl rfl), ⟨(S.c 4 0 rfl rfl), (S.c 4 1 rfl rfl)⟩⟩⟩ fun hS => ?_
        generalize (w55.alloc (.cells #[.bool false, .slice none 0 0] 37)) = w65 at S n1 n2 ng nc nz HH hS ⊢
        clear hKK KK
        refine rd 1 fun KK hKK => ?_
        go_simp; clear hS
        refine (S.call (wabs_any ⟨_, _, _, by rw [HD.out.2.1], n2⟩ HD.out.2.2.2.1 ((d.natAbs : Nat) : Int) rfl)).mono ?_
        clear S
        rintro e w66 ⟨⟨_, rfl, pa, la, Ka, rfl, na⟩, S, H⟩
        refine iv5 H n1 n2 ng nc nz ?_; clear n1 n2 ng nc nz; intro n1 n2 ng nc nz; replace HH := HH.trans H; clear H
        go_wp2_with fail
        refine ho hKK ⟨(S.c 1 0 rfl rfl), ⟨(S.c 1 1 rfl rfl), ⟨(S.c 4 0 rfl rfl), (S.c 4 1 rfl rfl)⟩⟩⟩ fun hS => ?_
        clear hKK KK
        refine rd 3 fun KK hKK => ?_
        go_simp; clear hS
        refine (S.call (wdiv_to ⟨_, _, _, rfl, na⟩ ⟨_, _, _, rfl, nc⟩ HD.out.2.2.2.1 HG.out.2.1 y yr HG.out.2.2 HZ.out.2.2.1 HZ.out.2.2.2)).mono ?_
        clear S
        rintro e w67 ⟨⟨_, _, rfl, ⟨py, ly, Ky, rfl, ny⟩, ⟨pv, lv, Kv, rfl, nv⟩⟩, S, H⟩
        refine iv6 H n1 n2 ng nc nz na ?_; clear n1 n2 ng nc nz na; intro n1 n2 ng nc nz na; replace HH := HH.trans H; clear H
        go_wp2_with fail
        refine ho hKK ⟨(S.c 1 0 rfl rfl), ⟨(S.c 1 1 rfl rfl), ⟨(S.c 4 0 rfl rfl), (S.c 4 1 rfl rfl)⟩⟩⟩ fun hS => ?_
        clear hKK KK
        refine tk 4 hS ?_
        refine tk 5 hS ?_
        refine tk 6 hS ?_
        refine tk 7 hS ?_
        refine rd 10 fun KK hKK => ?_
        have c0 := S.c 8 0 rfl rfl; have f0 := S.f 8 0 rfl; have c1 := S.c 8 1 rfl rfl; have f1 := S.f 8 1 rfl; go_simp; clear hS c0 f0 c1 f1
        have H := S.hset 8 0 (.bool (negB y)) rfl rfl (by intro q n e; cases e)
        replace S := S.set 8 0 (.bool (negB y)) rfl
        refine iv7 H n1 n2 ng nc nz na ny ?_; clear n1 n2 ng nc nz na ny; intro n1 n2 ng nc nz na ny; replace HH := HH.trans H; clear H
        have H := S.hset 8 1 (.slice py ly Ky) rfl rfl (by intro q n e; cases e)
        replace S := S.set 8 1 (.slice py ly Ky) rfl
        refine iv7 H n1 n2 ng nc nz na ny ?_; clear n1 n2 ng nc nz na ny; intro n1 n2 ng nc nz na ny; replace HH := HH.trans H; clear H
        refine ho hKK ⟨(S.c 1 0 rfl rfl), ⟨(S.c 1 1 rfl rfl), ⟨(S.c 4 0 rfl rfl), (S.c 4 1 rfl rfl)⟩⟩⟩ fun hS => ?_
        generalize ((w67.setCell ⟨w55.heap.size, 0, none⟩ (.bool (negB y))).setCell ⟨w55.heap.size, 1, none⟩ (.slice py ly Ky)) = w68 at S n1 n2 ng nc nz na ny HH hS ⊢
        clear hKK KK
        refine rd 11 fun KK hKK => ?_
        have c0 := S.c 7 0 rfl rfl; have f0 := S.f 7 0 rfl; have c1 := S.c 7 1 rfl rfl; have f1 := S.f 7 1 rfl; go_simp; clear hS c0 f0 c1 f1
        have H := S.hset 7 0 (.bool (negB yr)) rfl rfl (by intro q n e; cases e)
        replace S := S.set 7 0 (.bool (negB yr)) rfl
        refine iv7 H n1 n2 ng nc nz na ny ?_; clear n1 n2 ng nc nz na ny; intro n1 n2 ng nc nz na ny; replace HH := HH.trans H; clear H
        have H := S.hset 7 1 (.slice pv lv Kv) rfl rfl (by intro q n e; cases e)
        replace S := S.set 7 1 (.slice pv lv Kv) rfl
        refine iv7 H n1 n2 ng nc nz na ny ?_; clear n1 n2 ng nc nz na ny; intro n1 n2 ng nc nz na ny; replace HH := HH.trans H; clear H
        refine ho hKK ⟨(S.c 1 0 rfl rfl), ⟨(S.c 1 1 rfl rfl), ⟨(S.c 4 0 rfl rfl), (S.c 4 1 rfl rfl)⟩⟩⟩ fun hS => ?_
        generalize ((w68.setCell ⟨w11.heap.size, 0, none⟩ (.bool (negB yr))).setCell ⟨w11.heap.size, 1, none⟩ (.slice pv lv Kv)) = w69 at S n1 n2 ng nc nz na ny HH hS ⊢
        clear hKK KK
        refine rd 12 fun KK hKK => ?_
        go_simp
        refine ho hKK hS fun hS => ?_
        clear hKK KK
        refine wpAnyH_done (by kernel_rfl) ?_ _
        go_wp2_with fail
        go_meet
        case rel => exact ⟨w55.heap.size, py, ly, Ky, rfl, S.sub (.cons_cons _ (.cons_cons _ (.cons_cons _ (.cons_cons _ (.cons_cons _ (.cons_cons _ (.cons_cons _ (.cons _ (.cons_cons _ (.slnil)))))))))), ny, HH⟩
  case rest =>
    obtain ⟨g11, py, ly, Ky, rfl, S, ny, HH⟩ := hcut
    obtain ⟨w70, rfl⟩ : ∃ W : World, W = wc := ⟨_, rfl⟩
    refine iv5 HH n1 n2 ng nc nz ?_; clear n1 n2 ng nc nz; intro n1 n2 ng nc nz; clear HH
    cases b2 with
    | false =>
      have HN := Lib.hid (HQ.out.2.2.1 rfl)
      have c0_0 := S.c 0 0 rfl rfl; have c0_1 := S.c 0 1 rfl rfl; have c1_0 := S.c 1 0 rfl rfl; have c1_1 := S.c 1 1 rfl rfl; obtain ⟨c2_0, c2_1, c2_2⟩ := S.c3 2 rfl; have c4_0 := S.c 4 0 rfl rfl; have c4_1 := S.c 4 1 rfl rfl; have c5_0 := S.c 5 0 rfl rfl; have c5_1 := S.c 5 1 rfl rfl; have c7_0 := S.c 7 0 rfl rfl; have c7_1 := S.c 7 1 rfl rfl
      obtain ⟨f2_0, f2_1, f2_2⟩ := S.f3 2 rfl
      have HP := S.putq 2 (.bool (negB z)) (.slice pz lz Kz) (.slice py ly Ky) rfl rfl; have H := HP.2; replace S := HP.1; clear HP
      refine iv6 H n1 n2 ng nc nz ny ?_; clear n1 n2 ng nc nz ny; intro n1 n2 ng nc nz ny
      clear H; go_wp2_with fail; obtain ⟨d2_0, d2_1, d2_2⟩ := S.c3 2 rfl
      exact bodyPost_ret (v := .tuple #[.agg #[.bool (negB z), .slice pz lz Kz, .slice py ly Ky], .int .i64 0]) (by simp [results, Tryz.f55, go_sem, d2_0, d2_1, d2_2]) rfl (⟨⟨_, rfl, negB z, pz, lz, Kz, py, ly, Ky, rfl, by rw [HN.out]; rfl, by rw [HN.out]; exact nz, by rw [← HQ.out.1]; exact ny⟩, S.below⟩)
    | true =>
      have HN := Lib.hid (HQ.out.2.2.2 rfl)
      have c0_0 := S.c 0 0 rfl rfl; have c0_1 := S.c 0 1 rfl rfl; have c1_0 := S.c 1 0 rfl rfl; have c1_1 := S.c 1 1 rfl rfl; obtain ⟨c2_0, c2_1, c2_2⟩ := S.c3 2 rfl; have c4_0 := S.c 4 0 rfl rfl; have c4_1 := S.c 4 1 rfl rfl; have c5_0 := S.c 5 0 rfl rfl; have c5_1 := S.c 5 1 rfl rfl; have c7_0 := S.c 7 0 rfl rfl; have c7_1 := S.c 7 1 rfl rfl; go_wp2_with fail; clear c0_0 c0_1 c1_0 c1_1 c2_0 c2_1 c2_2 c4_0 c4_1 c5_0 c5_1 c7_0 c7_1
      refine (S.call (wneg_to ⟨_, _, _, rfl, nz⟩ HQ.out.2.1 (-z) rfl)).mono ?_
      clear S
      rintro e w71 ⟨⟨_, rfl, pw, lw, Kw, rfl, nw⟩, S, H⟩
      refine iv6 H n1 n2 ng nc nz ny ?_; clear n1 n2 ng nc nz ny; intro n1 n2 ng nc nz ny
      clear H; have c0_0 := S.c 0 0 rfl rfl; have c0_1 := S.c 0 1 rfl rfl; have c1_0 := S.c 1 0 rfl rfl; have c1_1 := S.c 1 1 rfl rfl; obtain ⟨c2_0, c2_1, c2_2⟩ := S.c3 2 rfl; have c4_0 := S.c 4 0 rfl rfl; have c4_1 := S.c 4 1 rfl rfl; have c5_0 := S.c 5 0 rfl rfl; have c5_1 := S.c 5 1 rfl rfl; have c7_0 := S.c 7 0 rfl rfl; have c7_1 := S.c 7 1 rfl rfl; have f5_0 := S.f 5 0 rfl
      have H := S.hset 5 0 (.bool (negB (-z))) rfl rfl (by intro q n e; cases e)
      replace S := S.set 5 0 (.bool (negB (-z))) rfl
      refine iv7 H n1 n2 ng nc nz ny nw ?_; clear n1 n2 ng nc nz ny nw; intro n1 n2 ng nc nz ny nw
      clear H; have f5_1 := S.f 5 1 rfl
      have H := S.hset 5 1 (.slice pw lw Kw) rfl rfl (by intro q n e; cases e)
      replace S := S.set 5 1 (.slice pw lw Kw) rfl
      refine iv7 H n1 n2 ng nc nz ny nw ?_; clear n1 n2 ng nc nz ny nw; intro n1 n2 ng nc nz ny nw
      clear H; have c5_0 := S.c 5 0 rfl rfl; have c5_1 := S.c 5 1 rfl rfl; have c7_1 := S.c 7 1 rfl rfl; obtain ⟨c2_0, c2_1, c2_2⟩ := S.c3 2 rfl
      obtain ⟨f2_0, f2_1, f2_2⟩ := S.f3 2 rfl
      have HP := S.putq 2 (.bool (negB (-z))) (.slice pw lw Kw) (.slice py ly Ky) rfl rfl; have H := HP.2; replace S := HP.1; clear HP
      refine iv7 H n1 n2 ng nc nz ny nw ?_; clear n1 n2 ng nc nz ny nw; intro n1 n2 ng nc nz ny nw
      clear H; go_wp2_with fail; obtain ⟨d2_0, d2_1, d2_2⟩ := S.c3 2 rfl
      exact bodyPost_ret (v := .tuple #[.agg #[.bool (negB (-z)), .slice pw lw Kw, .slice py ly Ky], .int .i64 0]) (by simp [results, Tryz.f55, go_sem, d2_0, d2_1, d2_2]) rfl (⟨⟨_, rfl, negB (-z), pw, lw, Kw, py, ly, Ky, rfl, by rw [HN.out]; rfl, by rw [HN.out]; exact nw, by rw [← HQ.out.1]; exact ny⟩, S.below⟩)
theorem divInt_le (n d : Int) (h : d ≠ 0) : (Rat.divInt n d).num.natAbs ≤ n.natAbs ∧ (Rat.divInt n d).den ≤ d.natAbs := by
  obtain ⟨h1, h2, h3, h4⟩ := make_parts n d h
  refine ⟨?_, by rw [h2]; exact Nat.div_le_self _ _⟩
  rcases (show 0 < d ∨ d < 0 by omega) with h0 | h0
  · rw [h3 h0]; exact Int.natAbs_ediv_le_natAbs _ _
  · rw [h4 h0, Int.natAbs_neg]; exact Int.natAbs_ediv_le_natAbs _ _
theorem rb_divInt {n d : Int} {k : Nat} (h : d ≠ 0) (hn : n.natAbs < NB k) (hd : d.natAbs < NB k) : RB (Rat.divInt n d) k :=
  ⟨Nat.lt_of_le_of_lt (divInt_le n d h).1 hn, Nat.lt_of_le_of_lt (divInt_le n d h).2 hd⟩
theorem add_divInt (x y : Rat) : x + y = Rat.divInt (x.num * y.den + y.num * x.den) ((x.den * y.den : Nat) : Int) := by rw [Rat.add_def', Rat.divInt_ofNat]
theorem mul_divInt (x y : Rat) : x * y = Rat.divInt (x.num * y.num) ((x.den * y.den : Nat) : Int) := by rw [Rat.mul_def', Rat.divInt_ofNat]
theorem rbz {x y : Rat} {a b : Nat} (h : RB x a) (k : RB y b) : (x.num * y.den).natAbs < NB (a + b) ∧ (y.num * x.den).natAbs < NB (a + b) ∧ x.den * y.den < NB (a + b) ∧ (x.num * y.num).natAbs < NB (a + b) := by
  refine ⟨nbz_mul h.1 k.2, ?_, nb_mul h.2 k.2, nbz_mul h.1 k.1⟩
  rw [Nat.add_comm]
  exact nbz_mul k.1 h.2
theorem rb_add {x y : Rat} {a b : Nat} (h : RB x a) (k : RB y b) : RB (x + y) (a + b + 1) := by
  obtain ⟨h1, h2, h3, _⟩ := rbz h k
  rw [add_divInt]
  refine rb_divInt (by have := Nat.mul_pos x.den_pos y.den_pos; omega) (nbz_add h1 h2) (nb_mono h3 (by omega))
theorem rb_mul {x y : Rat} {a b : Nat} (h : RB x a) (k : RB y b) : RB (x * y) (a + b) := by
  obtain ⟨_, _, h3, h4⟩ := rbz h k
  rw [mul_divInt]
  exact rb_divInt (by have := Nat.mul_pos x.den_pos y.den_pos; omega) h4 h3
theorem rb_neg {x : Rat} {a : Nat} (h : RB x a) : RB (-x) a := ⟨by rw [Rat.neg_num, Int.natAbs_neg]; exact h.1, h.2⟩
theorem rb_max {x : Rat} {a : Nat} (h : RB x a) (hk : a ≤ 512) : x.num.natAbs < maxN ∧ x.den < maxN := ⟨nb_max h.1 hk, nb_max h.2 hk⟩
set_option maxRecDepth 100000 in
set_option maxHeartbeats 1000000 in
theorem or_list (g n : Nat) (E : Nat → Int) (w : World) (hg : g < w.heap.size) (hn : n ≤ 1000) (hs : ∀ j, j < n → w.cell? ⟨g, j, none⟩ = some (.int .i64 (E j))) :
    Calls Tryz.prog 16 #[.slice (some ⟨g, 0, none⟩) n n] w fun e w' => (∃ r, e = .returned (.int .i64 r) ∧ Hid (r = 0 → ∀ j, j < n → E j = 0)) ∧ Below w.heap.size w w' := by
  have HS := Lib.hid hs
  clear hs
  have S := St.start w
  go_enter Tryz.func16, Tryz.ntmps16
  go_wp2_with fail
  go_loopw [8] (fun si wr => ∃ k : Nat, k ≤ n ∧ si = .int .i64 k ∧ Hid (∀ j, j < k → E j = 0) ∧ St w wr []) (fun si _ => n - (intOf si).toNat)
  case atStart => exact ⟨0, by omega, rfl, fun j hj => by omega, S⟩
  case round =>
    obtain ⟨k, hk, rfl, hz, S⟩ := hrel
    by_cases hlt : k < n
    · have a0 := (S.below.cell (p := ⟨g, k, none⟩) hg).trans (HS.out k hlt)
      have HL := Lib.hid hlt
      have hki : (k : Int) < ((n : Nat) : Int) := by omega
      obtain ⟨ek, hek⟩ : ∃ ek, E k = ek := ⟨_, rfl⟩
      have HE := Lib.hid hek
      rw [hek] at a0
      clear hlt hek
      by_cases h0 : ek = 0
      · have h0' : (ek != 0) = false := by rw [h0]; rfl
        have H0 := Lib.hid h0
        clear h0; go_wp2_with fail
        go_roundw
        case rel =>
          refine ⟨k + 1, HL.out, by go_num, fun j hj => ?_, S⟩
          by_cases hjk : j = k
          · rw [hjk, HE.out, H0.out]
          · exact hz.out j (by omega)
        case measure => have := HL.out; simp [intOf]; omega
      · have h0' : (ek != 0) = true := by simpa using h0
        have H0 := Lib.hid h0
        clear h0; go_wp2_with fail
        go_ret
        exact ⟨⟨ek, rfl, fun h => absurd h H0.out⟩, S.below⟩
    · have hge : ¬ (k : Int) < ((n : Nat) : Int) := by omega
      have HZ : ∀ j, j < n → E j = 0 := fun j hj => hz.out j (by omega)
      have HZ := Lib.hid HZ
      clear hlt hz
      go_wp2
      go_ret
      exact ⟨⟨0, rfl, fun _ => HZ.out⟩, S.below⟩
theorem or_pair {g : Nat} {w W : World} {L : List (Nat × TypeId × List Value)} (S : St w W L) (i : Nat) {t : TypeId} {c d : Int} (hi : L[i]? = some (g, t, [.int .i64 c, .int .i64 d])) :
    Calls Tryz.prog 16 #[.slice (some ⟨g, 0, none⟩) 2 2] W fun e w' => (∃ r, e = .returned (.int .i64 r) ∧ Hid (r = 0 → c = 0 ∧ d = 0)) ∧ Below W.heap.size W w' :=
  (or_list g 2 (fun j => [c, d].getD j 0) W (S.lt i hi) (by decide) fun j hj => by
    match j, hj with
    | 0, _ => exact S.c i 0 hi rfl
    | 1, _ => exact S.c i 1 hi rfl).mono fun e w' ⟨⟨r, he, hr⟩, hB⟩ => ⟨⟨r, he, fun h => ⟨hr.out h 0 (by decide), hr.out h 1 (by decide)⟩⟩, hB⟩
theorem check_rawN (p : Option Addr) (K l : Nat) (es : List Nat) (w : World) (hat : At .u32 w p K es) (hl : es.length = l) (h5 : l ≤ 1000000) (c : Int) (hc : ((checkOf es : Nat) : Int) = c) :
    Calls Tryz.prog 18 #[.slice p l K] w fun e w' => e = .returned (.int .i64 c) ∧ Below w.heap.size w w' := by
  subst hl; subst hc
  exact check_any hat.nums h5
def ValidR (b : Bool) (ds es : List Nat) : Prop := (cut ds = ds ∧ (b = true → ds ≠ [])) ∧ cut es = es ∧ val 4294967296 es ≠ 0 ∧ Nat.gcd (val 4294967296 ds) (val 4294967296 es) = 1
theorem check_cut {es : List Nat} (hl : es.length ≤ 512) (h : ((checkOf es : Nat) : Int) = 0) : cut es = es := by
  have hz : checkOf es = 0 := by omega
  unfold checkOf at hz
  rw [if_neg (by omega)] at hz
  split at hz
  · omega
  · rename_i h2
    have := cut_le es
    exact cut_full es (by omega)
theorem bits_le_one {g : Nat} (h0 : g ≠ 0) (h : ¬ 1 < nbits g) : g = 1 := by
  obtain ⟨h1, h2, h3⟩ := nbits_spec h0
  have : nbits g = 1 := by omega
  rw [this] at h3
  omega
set_option maxRecDepth 100000 in
set_option maxHeartbeats 4000000 in
theorem rcheck_raw (b : Bool) (p p' : Option Addr) (K K' l l' : Nat) (ds es : List Nat) (w : World) (at1 : At .u32 w p K ds) (at2 : At .u32 w p' K' es) (d1 : Dig 4294967296 ds) (d2 : Dig 4294967296 es) (hl : ds.length = l) (hl' : es.length = l') (h5 : l ≤ 512) (h5' : l' ≤ 512) :
    Calls Tryz.prog 7 #[.agg #[.bool b, .slice p l K, .slice p' l' K']] w fun e w' => (∃ c : Int, e = .returned (.int .i64 c) ∧ Hid (c = 0 → ValidR b ds es)) ∧ Below w.heap.size w w' := by
  obtain ⟨c2, hc2⟩ : ∃ c2 : Int, ((checkOf es : Nat) : Int) = c2 := ⟨_, rfl⟩
  have HD := Lib.hid (And.intro d1 (And.intro d2 (And.intro hl (And.intro hl' (And.intro h5 (And.intro h5' hc2))))))
  clear d1 d2 hl hl' h5 h5' hc2
  have S := (St.start w).alloc 39 [.bool b, .slice p l K, .slice p' l' K'] (w.heap.size)
  try simp only [List.nil_append] at S
  replace at1 := at1.hold S.hold; replace at2 := at2.hold S.hold
  obtain ⟨c0_0, c0_1, c0_2⟩ := S.c3 0 rfl
  go_enter Tryz.func7, Tryz.ntmps7
  go_upto_region 1 with fail
  clear c0_0 c0_1 c0_2
  generalize (w.alloc (.cells #[.bool b, .slice p l K, .slice p' l' K'] 39)) = w1 at S at1 at2 ⊢
  have HH := Hold.drew w1
  replace at1 := at1.hold HH; replace at2 := at2.hold HH
  replace S := S.drew
  refine wp_region_held_drew (S := fun W => W.cell? ⟨w.heap.size, 0, none⟩ = some (.bool b) ∧ W.cell? ⟨w.heap.size, 1, none⟩ = some (.slice p l K) ∧ W.cell? ⟨w.heap.size, 2, none⟩ = some (.slice p' l' K')) (by kernel_rfl) (S.c3 0 rfl) (fun hS => ?_)
  generalize w1.drew = w2 at S at1 at2 HH hS ⊢
  refine tk 0 hS ?_
  refine tk 1 hS ?_
  refine tk 3 hS ?_
  refine tk 4 hS ?_
  refine rd 2 fun KK hKK => ?_
  go_simp; clear hS
  refine (S.call (wcheck_raw b p K l ds _ at1 HD.out.1 HD.out.2.2.1 HD.out.2.2.2.2.1)).mono ?_
  clear S
  rintro e w3 ⟨⟨c1, rfl, h1⟩, S, H⟩
  replace at1 := at1.hold H; replace at2 := at2.hold H; replace HH := HH.trans H; clear H
  go_wp2_with fail
  refine ho hKK (S.c3 0 rfl) fun hS => ?_
  clear hKK KK
  refine rd 5 fun KK hKK => ?_
  go_simp; clear hS
  refine (S.call (check_rawN p' K' l' es _ at2 HD.out.2.2.2.1 (by have := HD.out.2.2.2.2.2.1; omega) c2 HD.out.2.2.2.2.2.2)).mono ?_
  clear S
  rintro e w4 ⟨rfl, S, H⟩
  replace at1 := at1.hold H; replace at2 := at2.hold H; replace HH := HH.trans H; clear H
  go_wp2_with fail
  refine ho hKK (S.c3 0 rfl) fun hS => ?_
  clear hKK KK
  refine rd 6 fun KK hKK => ?_
  go_simp; clear hS
  have H := S.hnew 27 [.int .i64 c1, .int .i64 c2]
  replace S := S.al 27 [.int .i64 c1, .int .i64 c2] (w4.heap.size)
  replace at1 := at1.hold H; replace at2 := at2.hold H; replace HH := HH.trans H; clear H
  refine ho hKK (S.c3 0 rfl) fun hS => ?_
  generalize (w4.alloc (.cells #[.int .i64 c1, .int .i64 c2] 27)) = w5 at S at1 at2 HH hS ⊢
  clear hKK KK
  refine rd 7 fun KK hKK => ?_
  go_simp; clear hS
  refine (S.call (or_pair S 1 rfl)).mono ?_
  clear S
  rintro e w6 ⟨⟨r, rfl, hr⟩, S, H⟩
  replace at1 := at1.hold H; replace at2 := at2.hold H; replace HH := HH.trans H; clear H
  go_wp2_with fail
  refine ho hKK (S.c3 0 rfl) fun hS => ?_
  clear hKK KK
  refine rd 8 fun KK hKK => ?_
  go_simp
  refine ho hKK hS fun hS => ?_
  clear hKK KK
  refine wpAnyH_done (by kernel_rfl) ?_ _
  clear hS HH
  by_cases h0 : r = 0
  · have h0' : (r != 0) = false := by rw [h0]; rfl
    obtain ⟨e1, e2⟩ := hr.out h0
    have v1 := h1.out e1
    have v2 := check_cut (by have := HD.out.2.2.2.1; have := HD.out.2.2.2.2.2.1; omega) (HD.out.2.2.2.2.2.2.trans e2)
    have nn : IsNat w6 (.slice p l K) (val 4294967296 ds) := by rw [← HD.out.2.2.1]; exact ⟨ds, at1.nums, ⟨HD.out.1, v1.1⟩, rfl⟩
    have nd : IsNat w6 (.slice p' l' K') (val 4294967296 es) := by rw [← HD.out.2.2.2.1]; exact ⟨es, at2.nums, ⟨HD.out.2.1, v2⟩, rfl⟩
    have m1 : val 4294967296 ds < maxN := Can.len_max ⟨HD.out.1, v1.1⟩ |>.1 (by rw [HD.out.2.2.1]; exact HD.out.2.2.2.2.1)
    have m2 : val 4294967296 es < maxN := Can.len_max ⟨HD.out.2.1, v2⟩ |>.1 (by rw [HD.out.2.2.2.1]; exact HD.out.2.2.2.2.2.1)
    obtain ⟨n, hn⟩ : ∃ n, val 4294967296 ds = n := ⟨_, rfl⟩
    obtain ⟨m, hm⟩ : ∃ m, val 4294967296 es = m := ⟨_, rfl⟩
    rw [hn] at nn m1
    rw [hm] at nd m2
    have HV := Lib.hid (And.intro v1 (And.intro v2 (And.intro hn (And.intro hm (And.intro m1 m2)))))
    obtain ⟨t, ht⟩ : ∃ t, nbits m = t := ⟨_, rfl⟩
    have HT := Lib.hid ht
    clear hr h1 e1 e2 v1 v2 hn hm m1 m2 ht h0; clear at1 at2; obtain ⟨c0_0, c0_1, c0_2⟩ := S.c3 0 rfl; go_wp2_with fail; clear c0_0 c0_1 c0_2
    refine (S.call (bits_nat nd HV.out.2.2.2.2.2 HT.out)).mono ?_
    clear S
    rintro e w7 ⟨rfl, S, H⟩
    replace nn := nn.hold H; replace nd := nd.hold H
    clear H; obtain ⟨c0_0, c0_1, c0_2⟩ := S.c3 0 rfl
    by_cases ht0 : t = 0
    · subst ht0
      go_wp2_with fail
      exact bodyPost_ret (v := .int .i64 2) (by simp [results, Tryz.f7, go_sem]) rfl (⟨⟨2, rfl, fun h => by cases h⟩, S.below⟩)
    · have htI : ((t : Int) == 0) = false := by simpa using ht0
      have htJ : ¬ (t : Int) = 0 := by omega
      have hm0 : m ≠ 0 := fun e => ht0 (by rw [← HT.out, e]; rfl)
      have HM := Lib.hid hm0
      clear ht0 hm0; go_wp2_with fail; clear c0_0 c0_1 c0_2
      refine (S.call (gcd_any nn nd HV.out.2.2.2.2.1 HV.out.2.2.2.2.2)).mono ?_
      clear S
      rintro e w8 ⟨⟨v, rfl, nv⟩, S, H⟩
      replace nn := nn.hold H; replace nd := nd.hold H
      clear H; obtain ⟨c0_0, c0_1, c0_2⟩ := S.c3 0 rfl
      obtain ⟨u, hu⟩ : ∃ u, nbits (Nat.gcd n m) = u := ⟨_, rfl⟩
      have HU := Lib.hid hu
      have hgm : Nat.gcd n m < maxN := Nat.lt_of_le_of_lt (Nat.gcd_le_right _ (by have := HM.out; omega)) HV.out.2.2.2.2.2
      have HG := Lib.hid hgm
      clear hu hgm; go_wp2_with fail; clear c0_0 c0_1 c0_2
      refine (S.call (bits_nat nv HG.out HU.out)).mono ?_
      clear S
      rintro e w9 ⟨rfl, S, H⟩
      refine iv3 H nn nd nv ?_; clear nn nd nv; intro nn nd nv
      clear H; obtain ⟨c0_0, c0_1, c0_2⟩ := S.c3 0 rfl
      by_cases hu1 : 1 < u
      · have hu1' : (1 : Int) < (u : Int) := by omega
        go_wp2_with fail
        exact bodyPost_ret (v := .int .i64 2) (by simp [results, Tryz.f7, go_sem]) rfl (⟨⟨2, rfl, fun h => by cases h⟩, S.below⟩)
      · have hu1' : ¬ (1 : Int) < (u : Int) := by omega
        have HOK := Lib.hid (show ValidR b ds es from ⟨HV.out.1, HV.out.2.1, by rw [HV.out.2.2.2.1]; exact HM.out, by rw [HV.out.2.2.1, HV.out.2.2.2.1]; exact bits_le_one (fun e => HM.out (Nat.gcd_eq_zero_iff.1 e).2) (by rw [HU.out]; exact hu1)⟩)
        clear hu1; go_wp2_with fail
        exact bodyPost_ret (v := .int .i64 0) (by simp [results, Tryz.f7, go_sem]) rfl (⟨⟨0, rfl, fun _ => HOK.out⟩, S.below⟩)
  · have h0' : (r != 0) = true := by simpa using h0
    have H0 := Lib.hid h0
    clear h0; go_wp2_with fail
    exact bodyPost_ret (v := .int .i64 r) (by simp [results, Tryz.f7, go_sem]) rfl (⟨⟨r, rfl, fun h => absurd h H0.out⟩, S.below⟩)
def TriedR (k : Nat) (b : Bool) (ds es : List Nat) : Prop := ds.length ≤ k ∧ es.length ≤ k ∧ ValidR b ds es
structure RawQ where
  b : Bool
  p : Option Addr
  q : Option Addr
  K : Nat
  J : Nat
  ds : List Nat
  es : List Nat
instance rawQ_inh : Inhabited RawQ := ⟨⟨false, none, none, 0, 0, [], []⟩⟩
def RawQ.cells (x : RawQ) : List Value := [.bool x.b, .slice x.p x.ds.length x.K, .slice x.q x.es.length x.J]
def RawQ.In (w : World) (x : RawQ) : Prop := At .u32 w x.p x.K x.ds ∧ At .u32 w x.q x.J x.es ∧ Dig 4294967296 x.ds ∧ Dig 4294967296 x.es
theorem RawQ.In.hold {w w' : World} {x : RawQ} (H : Hold w w') : x.In w → x.In w'
  | ⟨h1, h2, h3, h4⟩ => ⟨h1.hold H, h2.hold H, h3, h4⟩
instance hdI30 {w w' : World} {x : RawQ} : Hd w w' (x.In w) (x.In w') := ⟨RawQ.In.hold⟩
def Raws (w : World) (v : Value) (xs : List RawQ) : Prop := ∃ p c, v = .slice p xs.length c ∧ (p = none → c = 0) ∧ xs.length ≤ c ∧ ∀ (j : Nat) x, xs[j]? = some x → ∃ g off, p = some ⟨g, off, none⟩ ∧ g < w.heap.size ∧ w.cell? ⟨g, off + j * 3, none⟩ = some (.bool x.b) ∧ w.cell? ⟨g, off + j * 3 + 1, none⟩ = some (.slice x.p x.ds.length x.K) ∧ w.cell? ⟨g, off + j * 3 + 2, none⟩ = some (.slice x.q x.es.length x.J) ∧ x.In w
theorem Raws.to {w w' : World} {v : Value} {xs : List RawQ} (h : Raws w v xs) (hB : Below w.heap.size w w') : Raws w' v xs := by
  obtain ⟨p, c, e, h1, h2, h3⟩ := h
  refine ⟨p, c, e, h1, h2, fun j q hq => ?_⟩
  obtain ⟨g, off, hp, hg, a0, a1, a2, hr⟩ := h3 j q hq
  exact ⟨g, off, hp, Nat.lt_of_lt_of_le hg hB.size, (hB.cell (p := ⟨g, off + j * 3, none⟩) hg).trans a0, (hB.cell (p := ⟨g, off + j * 3 + 1, none⟩) hg).trans a1, (hB.cell (p := ⟨g, off + j * 3 + 2, none⟩) hg).trans a2, hr.hold (Hold.of_below hB)⟩
theorem Raws.form {w : World} {v : Value} {xs : List RawQ} (h : Raws w v xs) : ∃ p c, v = .slice p xs.length c := by
  obtain ⟨p, c, e, _⟩ := h
  exact ⟨p, c, e⟩
theorem Raws.get {w : World} {p : Option Addr} {n c : Nat} {xs : List RawQ} (h : Raws w (.slice p n c) xs) {j : Nat} (hj : j < n) : ∃ g off b p1 l1 K1 p2 l2 K2 ds es, p = some ⟨g, off, none⟩ ∧ g < w.heap.size ∧ w.cell? ⟨g, off + j * 3, none⟩ = some (.bool b) ∧ w.cell? ⟨g, off + j * 3 + 1, none⟩ = some (.slice p1 l1 K1) ∧ w.cell? ⟨g, off + j * 3 + 2, none⟩ = some (.slice p2 l2 K2) ∧
    xs[j]? = some ⟨b, p1, p2, K1, K2, ds, es⟩ ∧ ds.length = l1 ∧ es.length = l2 ∧ At .u32 w p1 K1 ds ∧ At .u32 w p2 K2 es ∧ Dig 4294967296 ds ∧ Dig 4294967296 es := by
  obtain ⟨p', c', e, _, _, h3⟩ := h
  cases e
  have hq : xs[j]? = some (xs[j]'hj) := List.getElem?_eq_getElem _
  obtain ⟨g, off, hp, hg, a0, a1, a2, hr⟩ := h3 j _ hq
  exact ⟨g, off, _, _, _, _, _, _, _, _, _, hp, hg, a0, a1, a2, hq, rfl, rfl, hr.1, hr.2.1, hr.2.2.1, hr.2.2.2⟩
def RawQ.Tried (k : Nat) (x : RawQ) : Prop := TriedR k x.b x.ds x.es
def RawQ.IsQ (k : Nat) (x : RawQ) (q : Rat) : Prop := Hid (negB q.num = x.b) ∧ RB q k ∧ ∀ w, x.In w → IsNat w (.slice x.p x.ds.length x.K) q.num.natAbs ∧ IsNat w (.slice x.q x.es.length x.J) q.den
theorem RawQ.Tried.isQ {k : Nat} {x : RawQ} (h : x.Tried k) (d1 : Dig 4294967296 x.ds) (d2 : Dig 4294967296 x.es) : ∃ q : Rat, x.IsQ k q := by
  obtain ⟨h1, h2, ⟨v1, v2⟩, v3, v4, v5⟩ := h
  have c1 : Can 4294967296 x.ds := ⟨d1, v1⟩
  have c2 : Can 4294967296 x.es := ⟨d2, v3⟩
  have n1 : ∀ w, x.In w → IsNat w (.slice x.p x.ds.length x.K) (val 4294967296 x.ds) := fun w hw => ⟨x.ds, hw.1.nums, c1, rfl⟩
  have n2 : ∀ w, x.In w → IsNat w (.slice x.q x.es.length x.J) (val 4294967296 x.es) := fun w hw => ⟨x.es, hw.2.1.nums, c2, rfl⟩
  have b1 := nb_len c1 h1
  have b2 := nb_len c2 h2
  cases hb : x.b with
  | false =>
    refine ⟨⟨(val 4294967296 x.ds : Nat), val 4294967296 x.es, v4, by simpa [Nat.Coprime] using v5⟩, by rw [hb]; exact negB_neg (by show ¬ (((val 4294967296 x.ds : Nat) : Int) < 0); omega), ⟨by simpa using b1, b2⟩, fun w hw => ⟨by simpa using n1 w hw, n2 w hw⟩⟩
  | true =>
    have h0 : val 4294967296 x.ds ≠ 0 := fun e => v2 hb (c1.eq_nil (by decide) e)
    refine ⟨⟨-((val 4294967296 x.ds : Nat) : Int), val 4294967296 x.es, v4, by simpa [Nat.Coprime] using v5⟩, by rw [hb]; exact negB_pos (by show -((val 4294967296 x.ds : Nat) : Int) < 0; omega), ⟨by simpa using b1, b2⟩, fun w hw => ⟨by simpa using n1 w hw, n2 w hw⟩⟩
def AllQ (k : Nat) (xs : List RawQ) (qs : List Rat) : Prop := xs.length = qs.length ∧ ∀ (j : Nat) x q, xs[j]? = some x → qs[j]? = some q → x.IsQ k q
theorem allQ_ex {k : Nat} : ∀ {xs : List RawQ}, (∀ x, x ∈ xs → x.Tried k ∧ Dig 4294967296 x.ds ∧ Dig 4294967296 x.es) → ∃ qs, AllQ k xs qs
  | [], _ => ⟨[], rfl, fun j x q h => by simp at h⟩
  | x :: xs, h => by
    obtain ⟨qs, hl, hq⟩ := allQ_ex (xs := xs) fun y hy => h y (List.mem_cons_of_mem _ hy)
    obtain ⟨h1, h2, h3⟩ := h x (List.mem_cons_self ..)
    obtain ⟨q, hx⟩ := h1.isQ h2 h3
    refine ⟨q :: qs, by simp [hl], fun j y r hy hr => ?_⟩
    cases j with
    | zero => simp at hy hr; subst hy hr; exact hx
    | succ j => exact hq j y r (by simpa using hy) (by simpa using hr)
theorem AllQ.rb {k : Nat} {xs : List RawQ} {qs : List Rat} (h : AllQ k xs qs) : ∀ q, q ∈ qs → RB q k := fun q hq => by
  obtain ⟨j, hj⟩ := List.getElem?_of_mem hq
  have hl : j < xs.length := by rw [h.1]; exact (List.getElem?_eq_some_iff.1 hj).1
  exact (h.2 j _ q (List.getElem?_eq_getElem hl) hj).2.1
theorem Raws.rats {w : World} {v : Value} {xs : List RawQ} {qs : List Rat} {k : Nat} (h : Raws w v xs) (hq : AllQ k xs qs) : Rats w v qs := by
  obtain ⟨p, c, e, h1, h2, h3⟩ := h
  refine ⟨p, c, by rw [e, hq.1], h1, by rw [← hq.1]; exact h2, fun j q hj => ?_⟩
  have hl : j < xs.length := by rw [hq.1]; exact (List.getElem?_eq_some_iff.1 hj).1
  obtain ⟨g, off, hp, hg, a0, a1, a2, hr⟩ := h3 j _ (List.getElem?_eq_getElem hl)
  have hx := hq.2 j _ q (List.getElem?_eq_getElem hl) hj
  obtain ⟨n1, n2⟩ := hx.2.2 w hr
  exact ⟨g, off, _, _, _, hp, hg, a0, a1, a2, _, _, _, _, _, _, _, rfl, rfl, rfl, hx.1, n1, n2⟩
theorem Raws.dig {w : World} {v : Value} {xs : List RawQ} (h : Raws w v xs) : ∀ x, x ∈ xs → Dig 4294967296 x.ds ∧ Dig 4294967296 x.es := fun x hx => by
  obtain ⟨p, c, _, _, _, h3⟩ := h
  obtain ⟨j, hj⟩ := List.getElem?_of_mem hx
  obtain ⟨_, _, _, _, _, _, _, hr⟩ := h3 j x hj
  exact hr.2.2
set_option maxRecDepth 100000 in
set_option maxHeartbeats 2000000 in
theorem over_any {va vb : Value} {n d : Int} {w : World} (ha : IsInt w va n) (hb : IsInt w vb d) (hn : n.natAbs < maxN) (hd : d.natAbs < maxN) (h0 : d ≠ 0) (q : Rat) (hq : q = Rat.divInt n d) :
    Calls Tryz.prog 86 #[va, vb, .int .i64 0] w fun e w' => (∃ u, e = .returned (.tuple #[u, .int .i64 0]) ∧ IsRat w' u q) ∧ Below w.heap.size w w' := by
  obtain ⟨p1, l1, K1, rfl, n1⟩ := ha
  obtain ⟨p2, l2, K2, rfl, n2⟩ := hb
  obtain ⟨b1, hb1⟩ : ∃ b1, negB n = b1 := ⟨_, rfl⟩
  obtain ⟨b2, hb2⟩ : ∃ b2, negB d = b2 := ⟨_, rfl⟩
  rw [hb1, hb2]
  have HD := Lib.hid (And.intro hb1 (And.intro hb2 (And.intro hn (And.intro hd (And.intro h0 hq)))))
  clear hb1 hb2 hn hd h0 hq
  have S := (((St.start w).alloc 37 [.bool b1, .slice p1 l1 K1] (w.heap.size)).alloc 37 [.bool b2, .slice p2 l2 K2] (w.heap.size + 1)).alloc 39 [.bool false, .slice none 0 0, .slice none 0 0] (w.heap.size + 1 + 1)
  try simp only [List.cons_append, List.nil_append] at S
  replace n1 := n1.hold S.hold; replace n2 := n2.hold S.hold
  have c0_0 := S.c 0 0 rfl rfl; have c0_1 := S.c 0 1 rfl rfl; have c1_0 := S.c 1 0 rfl rfl; have c1_1 := S.c 1 1 rfl rfl; obtain ⟨c2_0, c2_1, c2_2⟩ := S.c3 2 rfl
  go_enter Tryz.func86, Tryz.ntmps86
  go_wp2_with fail; clear c0_0 c0_1 c1_0 c1_1 c2_0 c2_1 c2_2
  refine (S.call (rmake_any ⟨_, _, _, by rw [HD.out.1], n1⟩ ⟨_, _, _, by rw [HD.out.2.1], n2⟩ HD.out.2.2.1 HD.out.2.2.2.1 HD.out.2.2.2.2.1 q HD.out.2.2.2.2.2)).mono ?_
  clear S
  rintro e w1 ⟨⟨_, rfl, b, p, l, K, q', j, J, rfl, hb, nn, dd⟩, S, H⟩
  replace n1 := n1.hold H; replace n2 := n2.hold H
  clear H; have c0_0 := S.c 0 0 rfl rfl; have c0_1 := S.c 0 1 rfl rfl; have c1_0 := S.c 1 0 rfl rfl; have c1_1 := S.c 1 1 rfl rfl; obtain ⟨c2_0, c2_1, c2_2⟩ := S.c3 2 rfl
  obtain ⟨f2_0, f2_1, f2_2⟩ := S.f3 2 rfl
  have HP := S.putq 2 (.bool b) (.slice p l K) (.slice q' j J) rfl rfl; have H := HP.2; replace S := HP.1; clear HP
  refine iv4 H n1 n2 nn dd ?_; clear n1 n2 nn dd; intro n1 n2 nn dd
  clear H; go_wp2_with fail; obtain ⟨d2_0, d2_1, d2_2⟩ := S.c3 2 rfl
  exact bodyPost_ret (v := .tuple #[.agg #[.bool b, .slice p l K, .slice q' j J], .int .i64 0]) (by simp [results, Tryz.f86, go_sem, d2_0, d2_1, d2_2]) rfl (⟨⟨_, rfl, b, p, l, K, q', j, J, rfl, hb, nn, dd⟩, S.below⟩)
set_option maxRecDepth 100000 in
set_option maxHeartbeats 4000000 in
theorem rmul_any {va vb : Value} {x y : Rat} {w : World} (ha : IsRat w va x) (hb : IsRat w vb y) {k1 k2 : Nat} (hx : RB x k1) (hy : RB y k2) (hk : k1 + k2 ≤ 511) (q : Rat) (hq : x * y = q) :
    Calls Tryz.prog 59 #[va, vb] w fun e w' => (∃ u, e = .returned (.tuple #[u, .int .i64 0]) ∧ IsRat w' u q) ∧ Below w.heap.size w w' := by
  obtain ⟨b1, p1, l1, K1, q1, j1, J1, rfl, hb1, n1, d1⟩ := ha
  obtain ⟨b2, p2, l2, K2, q2, j2, J2, rfl, hb2, n2, d2⟩ := hb
  obtain ⟨Z, hZ⟩ : ∃ Z, x.num * y.num = Z := ⟨_, rfl⟩
  obtain ⟨D, hD⟩ : ∃ D, ((x.den * y.den : Nat) : Int) = D := ⟨_, rfl⟩
  have hb := rbz hx hy
  rw [hZ] at hb
  have hD0 : D ≠ 0 := by rw [← hD]; have := Nat.mul_pos x.den_pos y.den_pos; omega
  have hDb : D.natAbs < maxN := by rw [← hD, Int.natAbs_natCast]; exact nb_max hb.2.2.1 (by omega)
  have hdd : (x.den : Int) * (y.den : Int) = D := by rw [← hD, Int.natCast_mul]
  have hq2 : q = Rat.divInt Z D := by rw [← hq, mul_divInt, hZ, hD]
  have HX := Lib.hid (And.intro (rb_max hx (by omega)) (rb_max hy (by omega)))
  have HD := Lib.hid (And.intro hZ (And.intro hdd (And.intro hq2 hD0)))
  have HB := Lib.hid (And.intro (nb_max hb.2.2.2 (by omega)) hDb)
  clear hZ hD hb hD0 hDb hdd hq hq2 hx hy hk
  have S := (((St.start w).alloc 39 [.bool b1, .slice p1 l1 K1, .slice q1 j1 J1] (w.heap.size)).alloc 39 [.bool b2, .slice p2 l2 K2, .slice q2 j2 J2] (w.heap.size + 1)).alloc 39 [.bool false, .slice none 0 0, .slice none 0 0] (w.heap.size + 1 + 1)
  try simp only [List.cons_append, List.nil_append] at S
  refine iv4 S.hold n1 d1 n2 d2 ?_; clear n1 d1 n2 d2; intro n1 d1 n2 d2
  obtain ⟨c0_0, c0_1, c0_2⟩ := S.c3 0 rfl; obtain ⟨c1_0, c1_1, c1_2⟩ := S.c3 1 rfl; obtain ⟨c2_0, c2_1, c2_2⟩ := S.c3 2 rfl
  go_enter Tryz.func59, Tryz.ntmps59
  go_wp2_with fail; clear c0_0 c0_1 c0_2 c1_0 c1_1 c1_2 c2_0 c2_1 c2_2
  refine (S.call (wmul_to ⟨_, _, _, by rw [hb1.out], n1⟩ ⟨_, _, _, by rw [hb2.out], n2⟩ HX.out.1.1 HX.out.2.1 Z HD.out.1 HB.out.1)).mono ?_
  clear S
  rintro e w1 ⟨⟨_, rfl, pz, lz, Kz, rfl, nz⟩, S, H⟩
  refine iv4 H n1 d1 n2 d2 ?_; clear n1 d1 n2 d2; intro n1 d1 n2 d2
  clear H; obtain ⟨c0_0, c0_1, c0_2⟩ := S.c3 0 rfl; obtain ⟨c1_0, c1_1, c1_2⟩ := S.c3 1 rfl; obtain ⟨c2_0, c2_1, c2_2⟩ := S.c3 2 rfl
  have H := S.hnew 37 [.bool (negB Z), .slice pz lz Kz]
  replace S := S.al 37 [.bool (negB Z), .slice pz lz Kz] (w1.heap.size)
  refine iv5 H n1 d1 n2 d2 nz ?_; clear n1 d1 n2 d2 nz; intro n1 d1 n2 d2 nz
  clear H; clear c0_0 c0_1 c0_2 c1_0 c1_1 c1_2 c2_0 c2_1 c2_2; obtain ⟨c0_0, c0_1, c0_2⟩ := S.c3 0 rfl; obtain ⟨c1_0, c1_1, c1_2⟩ := S.c3 1 rfl; obtain ⟨c2_0, c2_1, c2_2⟩ := S.c3 2 rfl; have c3_0 := S.c 3 0 rfl rfl; have c3_1 := S.c 3 1 rfl rfl
  go_upto_region 2 with fail
  clear c0_0 c0_1 c0_2 c1_0 c1_1 c1_2 c2_0 c2_1 c2_2 c3_0 c3_1
  generalize (w1.alloc (.cells #[.bool (negB Z), .slice pz lz Kz] 37)) = w2 at S n1 d1 n2 d2 nz ⊢
  go_cut [8, 9] (fun s8 s9 wx => ∃ g8 pd ld Kd, s8 = .pointer (some ⟨g8, 0, none⟩) ∧ s9 = .int .i64 0 ∧ St w wx [(w.heap.size, 39, [.bool b1, .slice p1 l1 K1, .slice q1 j1 J1]), (w.heap.size + 1, 39, [.bool b2, .slice p2 l2 K2, .slice q2 j2 J2]), (w.heap.size + 1 + 1, 39, [.bool false, .slice none 0 0, .slice none 0 0]), (w1.heap.size, 37, [.bool (negB Z), .slice pz lz Kz]), (g8, 37, [.bool (negB D), .slice pd ld Kd])] ∧ IsNat wx (.slice pd ld Kd) D.natAbs ∧ Hold w2 wx)
  case first =>
    have HH := Hold.drew w2
    refine iv5 HH n1 d1 n2 d2 nz ?_; clear n1 d1 n2 d2 nz; intro n1 d1 n2 d2 nz
    replace S := S.drew
    refine wp_region_held_drew (S := fun W => W.cell? ⟨w.heap.size, 2, none⟩ = some (.slice q1 j1 J1) ∧ W.cell? ⟨w.heap.size + 1, 2, none⟩ = some (.slice q2 j2 J2)) (by kernel_rfl) ⟨(S.c 0 2 rfl rfl), (S.c 1 2 rfl rfl)⟩ (fun hS => ?_)
    generalize w2.drew = w3 at S n1 d1 n2 d2 nz HH hS ⊢
    refine tk 0 hS ?_
    refine tk 1 hS ?_
    refine tk 3 hS ?_
    refine tk 4 hS ?_
    refine wpAnyH_ready (rs := [2, 10]) (by kernel_rfl) (by simp) (AllReadyH.cons (opOf rfl) (fun KK hKK => ?_) (AllReadyH.cons (opOf rfl) (fun KK hKK => ?_) AllReadyH.nil))
    ·
      go_simp; clear hS
      refine (S.call (wnat_any d1 HX.out.1.2 (x.den : Int) rfl)).mono ?_
      clear S
      rintro e w4 ⟨⟨_, rfl, pa, la, Ka, rfl, na⟩, S, H⟩
      refine iv5 H n1 d1 n2 d2 nz ?_; clear n1 d1 n2 d2 nz; intro n1 d1 n2 d2 nz; replace HH := HH.trans H; clear H
      go_wp2_with fail
      refine ho hKK ⟨(S.c 0 2 rfl rfl), (S.c 1 2 rfl rfl)⟩ fun hS => ?_
      clear hKK KK
      refine wpAnyH_ready (rs := [5, 10]) (by kernel_rfl) (by simp) (AllReadyH.cons (opOf rfl) (fun KK hKK => ?_) (AllReadyH.cons (opOf rfl) (fun KK hKK => ?_) AllReadyH.nil))
      ·
        go_simp; clear hS
        refine (S.call (wnat_any d2 HX.out.2.2 (y.den : Int) rfl)).mono ?_
        clear S
        rintro e w5 ⟨⟨_, rfl, pb, lb, Kb, rfl, nb⟩, S, H⟩
        refine iv6 H n1 d1 n2 d2 nz na ?_; clear n1 d1 n2 d2 nz na; intro n1 d1 n2 d2 nz na; replace HH := HH.trans H; clear H
        go_wp2_with fail
        refine ho hKK ⟨(S.c 0 2 rfl rfl), (S.c 1 2 rfl rfl)⟩ fun hS => ?_
        clear hKK KK
        refine wpAnyH_ready (rs := [6, 10]) (by kernel_rfl) (by simp) (AllReadyH.cons (opOf rfl) (fun KK hKK => ?_) (AllReadyH.cons (opOf rfl) (fun KK hKK => ?_) AllReadyH.nil))
        ·
          go_simp; clear hS
          refine (S.call (wmul_to ⟨_, _, _, rfl, na⟩ ⟨_, _, _, rfl, nb⟩ HX.out.1.2 HX.out.2.2 D HD.out.2.1 HB.out.2)).mono ?_
          clear S
          rintro e w6 ⟨⟨_, rfl, pd, ld, Kd, rfl, nd⟩, S, H⟩
          refine iv7 H n1 d1 n2 d2 nz na nb ?_; clear n1 d1 n2 d2 nz na nb; intro n1 d1 n2 d2 nz na nb; replace HH := HH.trans H; clear H
          go_wp2_with fail
          refine ho hKK ⟨(S.c 0 2 rfl rfl), (S.c 1 2 rfl rfl)⟩ fun hS => ?_
          clear hKK KK
          refine tk 7 hS ?_
          refine tk 8 hS ?_
          refine tk 9 hS ?_
          refine rd 10 fun KK hKK => ?_
          go_simp; clear hS
          have H := S.hnew 37 [.bool false, .slice none 0 0]
          replace S := S.al 37 [.bool false, .slice none 0 0] (w6.heap.size)
          refine iv8 H n1 d1 n2 d2 nz na nb nd ?_; clear n1 d1 n2 d2 nz na nb nd; intro n1 d1 n2 d2 nz na nb nd; replace HH := HH.trans H; clear H
          refine ho hKK ⟨(S.c 0 2 rfl rfl), (S.c 1 2 rfl rfl)⟩ fun hS => ?_
          generalize (w6.alloc (.cells #[.bool false, .slice none 0 0] 37)) = w7 at S n1 d1 n2 d2 nz na nb nd HH hS ⊢
          clear hKK KK
          refine rd 11 fun KK hKK => ?_
          have c0 := S.c 4 0 rfl rfl; have f0 := S.f 4 0 rfl; have c1 := S.c 4 1 rfl rfl; have f1 := S.f 4 1 rfl; go_simp; clear hS c0 f0 c1 f1
          have H := S.hset 4 0 (.bool (negB D)) rfl rfl (by intro q n e; cases e)
          replace S := S.set 4 0 (.bool (negB D)) rfl
          refine iv8 H n1 d1 n2 d2 nz na nb nd ?_; clear n1 d1 n2 d2 nz na nb nd; intro n1 d1 n2 d2 nz na nb nd; replace HH := HH.trans H; clear H
          have H := S.hset 4 1 (.slice pd ld Kd) rfl rfl (by intro q n e; cases e)
          replace S := S.set 4 1 (.slice pd ld Kd) rfl
          refine iv8 H n1 d1 n2 d2 nz na nb nd ?_; clear n1 d1 n2 d2 nz na nb nd; intro n1 d1 n2 d2 nz na nb nd; replace HH := HH.trans H; clear H
          refine ho hKK ⟨(S.c 0 2 rfl rfl), (S.c 1 2 rfl rfl)⟩ fun hS => ?_
          generalize ((w7.setCell ⟨w6.heap.size, 0, none⟩ (.bool (negB D))).setCell ⟨w6.heap.size, 1, none⟩ (.slice pd ld Kd)) = w8 at S n1 d1 n2 d2 nz na nb nd HH hS ⊢
          clear hKK KK
          refine rd 12 fun KK hKK => ?_
          go_simp
          refine ho hKK hS fun hS => ?_
          clear hKK KK
          refine wpAnyH_done (by kernel_rfl) ?_ _
          go_wp2_with fail
          go_meet
          case rel => exact ⟨w6.heap.size, pd, ld, Kd, rfl, rfl, S, nd, HH⟩
        ·
          go_simp; clear hS
          have H := S.hnew 37 [.bool false, .slice none 0 0]
          replace S := S.al 37 [.bool false, .slice none 0 0] (w5.heap.size)
          refine iv7 H n1 d1 n2 d2 nz na nb ?_; clear n1 d1 n2 d2 nz na nb; intro n1 d1 n2 d2 nz na nb; replace HH := HH.trans H; clear H
          refine ho hKK ⟨(S.c 0 2 rfl rfl), (S.c 1 2 rfl rfl)⟩ fun hS => ?_
          generalize (w5.alloc (.cells #[.bool false, .slice none 0 0] 37)) = w9 at S n1 d1 n2 d2 nz na nb HH hS ⊢
          clear hKK KK
          refine rd 6 fun KK hKK => ?_
          go_simp; clear hS
          refine (S.call (wmul_to ⟨_, _, _, rfl, na⟩ ⟨_, _, _, rfl, nb⟩ HX.out.1.2 HX.out.2.2 D HD.out.2.1 HB.out.2)).mono ?_
          clear S
          rintro e w10 ⟨⟨_, rfl, pd, ld, Kd, rfl, nd⟩, S, H⟩
          refine iv7 H n1 d1 n2 d2 nz na nb ?_; clear n1 d1 n2 d2 nz na nb; intro n1 d1 n2 d2 nz na nb; replace HH := HH.trans H; clear H
          go_wp2_with fail
          refine ho hKK ⟨(S.c 0 2 rfl rfl), (S.c 1 2 rfl rfl)⟩ fun hS => ?_
          clear hKK KK
          refine tk 7 hS ?_
          refine tk 8 hS ?_
          refine tk 9 hS ?_
          refine rd 11 fun KK hKK => ?_
          have c0 := S.c 4 0 rfl rfl; have f0 := S.f 4 0 rfl; have c1 := S.c 4 1 rfl rfl; have f1 := S.f 4 1 rfl; go_simp; clear hS c0 f0 c1 f1
          have H := S.hset 4 0 (.bool (negB D)) rfl rfl (by intro q n e; cases e)
          replace S := S.set 4 0 (.bool (negB D)) rfl
          refine iv8 H n1 d1 n2 d2 nz na nb nd ?_; clear n1 d1 n2 d2 nz na nb nd; intro n1 d1 n2 d2 nz na nb nd; replace HH := HH.trans H; clear H
          have H := S.hset 4 1 (.slice pd ld Kd) rfl rfl (by intro q n e; cases e)
          replace S := S.set 4 1 (.slice pd ld Kd) rfl
          refine iv8 H n1 d1 n2 d2 nz na nb nd ?_; clear n1 d1 n2 d2 nz na nb nd; intro n1 d1 n2 d2 nz na nb nd; replace HH := HH.trans H; clear H
          refine ho hKK ⟨(S.c 0 2 rfl rfl), (S.c 1 2 rfl rfl)⟩ fun hS => ?_
          generalize ((w10.setCell ⟨w5.heap.size, 0, none⟩ (.bool (negB D))).setCell ⟨w5.heap.size, 1, none⟩ (.slice pd ld Kd)) = w11 at S n1 d1 n2 d2 nz na nb nd HH hS ⊢
          clear hKK KK
          refine rd 12 fun KK hKK => ?_
          go_simp
          refine ho hKK hS fun hS => ?_
          clear hKK KK
          refine wpAnyH_done (by kernel_rfl) ?_ _
          go_wp2_with fail
          go_meet
          case rel => exact ⟨w5.heap.size, pd, ld, Kd, rfl, rfl, S, nd, HH⟩
      ·
        go_simp; clear hS
        have H := S.hnew 37 [.bool false, .slice none 0 0]
        replace S := S.al 37 [.bool false, .slice none 0 0] (w4.heap.size)
        refine iv6 H n1 d1 n2 d2 nz na ?_; clear n1 d1 n2 d2 nz na; intro n1 d1 n2 d2 nz na; replace HH := HH.trans H; clear H
        refine ho hKK ⟨(S.c 0 2 rfl rfl), (S.c 1 2 rfl rfl)⟩ fun hS => ?_
        generalize (w4.alloc (.cells #[.bool false, .slice none 0 0] 37)) = w12 at S n1 d1 n2 d2 nz na HH hS ⊢
        clear hKK KK
        refine rd 5 fun KK hKK => ?_
        go_simp; clear hS
        refine (S.call (wnat_any d2 HX.out.2.2 (y.den : Int) rfl)).mono ?_
        clear S
        rintro e w13 ⟨⟨_, rfl, pb, lb, Kb, rfl, nb⟩, S, H⟩
        refine iv6 H n1 d1 n2 d2 nz na ?_; clear n1 d1 n2 d2 nz na; intro n1 d1 n2 d2 nz na; replace HH := HH.trans H; clear H
        go_wp2_with fail
        refine ho hKK ⟨(S.c 0 2 rfl rfl), (S.c 1 2 rfl rfl)⟩ fun hS => ?_
        clear hKK KK
        refine rd 6 fun KK hKK => ?_
        go_simp; clear hS
        refine (S.call (wmul_to ⟨_, _, _, rfl, na⟩ ⟨_, _, _, rfl, nb⟩ HX.out.1.2 HX.out.2.2 D HD.out.2.1 HB.out.2)).mono ?_
        clear S
        rintro e w14 ⟨⟨_, rfl, pd, ld, Kd, rfl, nd⟩, S, H⟩
        refine iv7 H n1 d1 n2 d2 nz na nb ?_; clear n1 d1 n2 d2 nz na nb; intro n1 d1 n2 d2 nz na nb; replace HH := HH.trans H; clear H
        go_wp2_with fail
        refine ho hKK ⟨(S.c 0 2 rfl rfl), (S.c 1 2 rfl rfl)⟩ fun hS => ?_
        clear hKK KK
        refine tk 7 hS ?_
        refine tk 8 hS ?_
        refine tk 9 hS ?_
        refine rd 11 fun KK hKK => ?_
        have c0 := S.c 4 0 rfl rfl; have f0 := S.f 4 0 rfl; have c1 := S.c 4 1 rfl rfl; have f1 := S.f 4 1 rfl; go_simp; clear hS c0 f0 c1 f1
        have H := S.hset 4 0 (.bool (negB D)) rfl rfl (by intro q n e; cases e)
        replace S := S.set 4 0 (.bool (negB D)) rfl
        refine iv8 H n1 d1 n2 d2 nz na nb nd ?_; clear n1 d1 n2 d2 nz na nb nd; intro n1 d1 n2 d2 nz na nb nd; replace HH := HH.trans H; clear H
        have H := S.hset 4 1 (.slice pd ld Kd) rfl rfl (by intro q n e; cases e)
        replace S := S.set 4 1 (.slice pd ld Kd) rfl
        refine iv8 H n1 d1 n2 d2 nz na nb nd ?_; clear n1 d1 n2 d2 nz na nb nd; intro n1 d1 n2 d2 nz na nb nd; replace HH := HH.trans H; clear H
        refine ho hKK ⟨(S.c 0 2 rfl rfl), (S.c 1 2 rfl rfl)⟩ fun hS => ?_
        generalize ((w14.setCell ⟨w4.heap.size, 0, none⟩ (.bool (negB D))).setCell ⟨w4.heap.size, 1, none⟩ (.slice pd ld Kd)) = w15 at S n1 d1 n2 d2 nz na nb nd HH hS ⊢
        clear hKK KK
        refine rd 12 fun KK hKK => ?_
        go_simp
        refine ho hKK hS fun hS => ?_
        clear hKK KK
        refine wpAnyH_done (by kernel_rfl) ?_ _
        go_wp2_with fail
        go_meet
        case rel => exact ⟨w4.heap.size, pd, ld, Kd, rfl, rfl, S, nd, HH⟩
    ·
      go_simp; clear hS
      have H := S.hnew 37 [.bool false, .slice none 0 0]
      replace S := S.al 37 [.bool false, .slice none 0 0] (w3.heap.size)
      refine iv5 H n1 d1 n2 d2 nz ?_; clear n1 d1 n2 d2 nz; intro n1 d1 n2 d2 nz; replace HH := HH.trans H; clear H
      refine ho hKK ⟨(S.c 0 2 rfl rfl), (S.c 1 2 rfl rfl)⟩ fun hS => ?_
      generalize (w3.alloc (.cells #[.bool false, .slice none 0 0] 37)) = w16 at S n1 d1 n2 d2 nz HH hS ⊢
      clear hKK KK
      refine rd 2 fun KK hKK => ?_
      go_simp; clear hS
      refine (S.call (wnat_any d1 HX.out.1.2 (x.den : Int) rfl)).mono ?_
      clear S
      rintro e w17 ⟨⟨_, rfl, pa, la, Ka, rfl, na⟩, S, H⟩
      refine iv5 H n1 d1 n2 d2 nz ?_; clear n1 d1 n2 d2 nz; intro n1 d1 n2 d2 nz; replace HH := HH.trans H; clear H
      go_wp2_with fail
      refine ho hKK ⟨(S.c 0 2 rfl rfl), (S.c 1 2 rfl rfl)⟩ fun hS => ?_
      clear hKK KK
      refine rd 5 fun KK hKK => ?_
      go_simp; clear hS
      refine (S.call (wnat_any d2 HX.out.2.2 (y.den : Int) rfl)).mono ?_
      clear S
      rintro e w18 ⟨⟨_, rfl, pb, lb, Kb, rfl, nb⟩, S, H⟩
      refine iv6 H n1 d1 n2 d2 nz na ?_; clear n1 d1 n2 d2 nz na; intro n1 d1 n2 d2 nz na; replace HH := HH.trans H; clear H
      go_wp2_with fail
      refine ho hKK ⟨(S.c 0 2 rfl rfl), (S.c 1 2 rfl rfl)⟩ fun hS => ?_
      clear hKK KK
      refine rd 6 fun KK hKK => ?_
      go_simp; clear hS
      refine (S.call (wmul_to ⟨_, _, _, rfl, na⟩ ⟨_, _, _, rfl, nb⟩ HX.out.1.2 HX.out.2.2 D HD.out.2.1 HB.out.2)).mono ?_
      clear S
      rintro e w19 ⟨⟨_, rfl, pd, ld, Kd, rfl, nd⟩, S, H⟩
      refine iv7 H n1 d1 n2 d2 nz na nb ?_; clear n1 d1 n2 d2 nz na nb; intro n1 d1 n2 d2 nz na nb; replace HH := HH.trans H; clear H
      go_wp2_with fail
      refine ho hKK ⟨(S.c 0 2 rfl rfl), (S.c 1 2 rfl rfl)⟩ fun hS => ?_
      clear hKK KK
      refine tk 7 hS ?_
      refine tk 8 hS ?_
      refine tk 9 hS ?_
      refine rd 11 fun KK hKK => ?_
      have c0 := S.c 4 0 rfl rfl; have f0 := S.f 4 0 rfl; have c1 := S.c 4 1 rfl rfl; have f1 := S.f 4 1 rfl; go_simp; clear hS c0 f0 c1 f1
      have H := S.hset 4 0 (.bool (negB D)) rfl rfl (by intro q n e; cases e)
      replace S := S.set 4 0 (.bool (negB D)) rfl
      refine iv8 H n1 d1 n2 d2 nz na nb nd ?_; clear n1 d1 n2 d2 nz na nb nd; intro n1 d1 n2 d2 nz na nb nd; replace HH := HH.trans H; clear H
      have H := S.hset 4 1 (.slice pd ld Kd) rfl rfl (by intro q n e; cases e)
      replace S := S.set 4 1 (.slice pd ld Kd) rfl
      refine iv8 H n1 d1 n2 d2 nz na nb nd ?_; clear n1 d1 n2 d2 nz na nb nd; intro n1 d1 n2 d2 nz na nb nd; replace HH := HH.trans H; clear H
      refine ho hKK ⟨(S.c 0 2 rfl rfl), (S.c 1 2 rfl rfl)⟩ fun hS => ?_
      generalize ((w19.setCell ⟨w3.heap.size, 0, none⟩ (.bool (negB D))).setCell ⟨w3.heap.size, 1, none⟩ (.slice pd ld Kd)) = w20 at S n1 d1 n2 d2 nz na nb nd HH hS ⊢
      clear hKK KK
      refine rd 12 fun KK hKK => ?_
      go_simp
      refine ho hKK hS fun hS => ?_
      clear hKK KK
      refine wpAnyH_done (by kernel_rfl) ?_ _
      go_wp2_with fail
      go_meet
      case rel => exact ⟨w3.heap.size, pd, ld, Kd, rfl, rfl, S, nd, HH⟩
  case rest =>
    obtain ⟨g8, pd, ld, Kd, rfl, rfl, S, nd, HH⟩ := hcut
    obtain ⟨w21, rfl⟩ : ∃ W : World, W = wc := ⟨_, rfl⟩
    refine iv5 HH n1 d1 n2 d2 nz ?_; clear n1 d1 n2 d2 nz; intro n1 d1 n2 d2 nz; clear HH; obtain ⟨c0_0, c0_1, c0_2⟩ := S.c3 0 rfl; obtain ⟨c1_0, c1_1, c1_2⟩ := S.c3 1 rfl; obtain ⟨c2_0, c2_1, c2_2⟩ := S.c3 2 rfl; have c3_0 := S.c 3 0 rfl rfl; have c3_1 := S.c 3 1 rfl rfl; have c4_0 := S.c 4 0 rfl rfl; have c4_1 := S.c 4 1 rfl rfl
    go_upto_region 3 with fail
    clear c0_0 c0_1 c0_2 c1_0 c1_1 c1_2 c2_0 c2_1 c2_2 c3_0 c3_1 c4_0 c4_1
    have HH := Hold.drew w21
    refine iv6 HH n1 d1 n2 d2 nz nd ?_; clear n1 d1 n2 d2 nz nd; intro n1 d1 n2 d2 nz nd
    replace S := S.drew
    refine wp_region_held_drew (S := fun W => W.cell? ⟨w1.heap.size, 0, none⟩ = some (.bool (negB Z)) ∧ W.cell? ⟨w1.heap.size, 1, none⟩ = some (.slice pz lz Kz) ∧ W.cell? ⟨g8, 0, none⟩ = some (.bool (negB D)) ∧ W.cell? ⟨g8, 1, none⟩ = some (.slice pd ld Kd)) (by kernel_rfl) ⟨(S.c 3 0 rfl rfl), ⟨(S.c 3 1 rfl rfl), ⟨(S.c 4 0 rfl rfl), (S.c 4 1 rfl rfl)⟩⟩⟩ (fun hS => ?_)
    generalize w21.drew = w22 at S n1 d1 n2 d2 nz nd HH hS ⊢
    refine tk 0 hS ?_
    refine tk 1 hS ?_
    refine tk 2 hS ?_
    refine tk 3 hS ?_
    refine rd 4 fun KK hKK => ?_
    go_simp; clear hS
    have H := S.hnew 27 [.int .i64 0, .int .i64 0]
    replace S := S.al 27 [.int .i64 0, .int .i64 0] (w22.heap.size)
    refine iv6 H n1 d1 n2 d2 nz nd ?_; clear n1 d1 n2 d2 nz nd; intro n1 d1 n2 d2 nz nd; replace HH := HH.trans H; clear H
    refine ho hKK ⟨(S.c 3 0 rfl rfl), ⟨(S.c 3 1 rfl rfl), ⟨(S.c 4 0 rfl rfl), (S.c 4 1 rfl rfl)⟩⟩⟩ fun hS => ?_
    generalize (w22.alloc (.cells #[.int .i64 0, .int .i64 0] 27)) = w23 at S n1 d1 n2 d2 nz nd HH hS ⊢
    clear hKK KK
    refine rd 5 fun KK hKK => ?_
    go_simp; clear hS
    refine (S.call (or_two S 5 rfl)).mono ?_
    clear S
    rintro e w24 ⟨rfl, S, H⟩
    refine iv6 H n1 d1 n2 d2 nz nd ?_; clear n1 d1 n2 d2 nz nd; intro n1 d1 n2 d2 nz nd; replace HH := HH.trans H; clear H
    go_wp2_with fail
    refine ho hKK ⟨(S.c 3 0 rfl rfl), ⟨(S.c 3 1 rfl rfl), ⟨(S.c 4 0 rfl rfl), (S.c 4 1 rfl rfl)⟩⟩⟩ fun hS => ?_
    clear hKK KK
    refine rd 6 fun KK hKK => ?_
    go_simp; clear hS
    refine (S.call (over_any ⟨_, _, _, rfl, nz⟩ ⟨_, _, _, rfl, nd⟩ HB.out.1 HB.out.2 HD.out.2.2.2 q HD.out.2.2.1)).mono ?_
    clear S
    rintro e w25 ⟨⟨_, rfl, b, p, l, K, q', j, J, rfl, hb, nn, dd⟩, S, H⟩
    refine iv6 H n1 d1 n2 d2 nz nd ?_; clear n1 d1 n2 d2 nz nd; intro n1 d1 n2 d2 nz nd; replace HH := HH.trans H; clear H
    go_wp2_with fail
    refine ho hKK ⟨(S.c 3 0 rfl rfl), ⟨(S.c 3 1 rfl rfl), ⟨(S.c 4 0 rfl rfl), (S.c 4 1 rfl rfl)⟩⟩⟩ fun hS => ?_
    clear hKK KK
    refine tk 7 hS ?_
    refine tk 8 hS ?_
    refine rd 9 fun KK hKK => ?_
    obtain ⟨c0, c1, c2⟩ := S.c3 2 rfl; obtain ⟨f0, f1, f2⟩ := S.f3 2 rfl
    go_simp; clear hS c0 f0 c1 f1 c2 f2
    have HP := S.putq 2 (.bool b) (.slice p l K) (.slice q' j J) rfl rfl; have H := HP.2; replace S := HP.1; clear HP
    refine iv8 H n1 d1 n2 d2 nz nd nn dd ?_; clear n1 d1 n2 d2 nz nd nn dd; intro n1 d1 n2 d2 nz nd nn dd; replace HH := HH.trans H; clear H
    refine ho hKK ⟨(S.c 3 0 rfl rfl), ⟨(S.c 3 1 rfl rfl), ⟨(S.c 4 0 rfl rfl), (S.c 4 1 rfl rfl)⟩⟩⟩ fun hS => ?_
    generalize (((w25.setCell ⟨w.heap.size + 1 + 1, 0, none⟩ (.bool b)).setCell ⟨w.heap.size + 1 + 1, 1, none⟩ (.slice p l K)).setCell ⟨w.heap.size + 1 + 1, 2, none⟩ (.slice q' j J)) = w26 at S n1 d1 n2 d2 nz nd nn dd HH hS ⊢
    clear hKK KK
    refine rd 10 fun KK hKK => ?_
    go_simp
    refine ho hKK hS fun hS => ?_
    clear hKK KK
    refine wpAnyH_done (by kernel_rfl) ?_ _
    clear hS HH; obtain ⟨c0_0, c0_1, c0_2⟩ := S.c3 0 rfl; obtain ⟨c1_0, c1_1, c1_2⟩ := S.c3 1 rfl; obtain ⟨c2_0, c2_1, c2_2⟩ := S.c3 2 rfl; have c3_0 := S.c 3 0 rfl rfl; have c3_1 := S.c 3 1 rfl rfl; have c4_0 := S.c 4 0 rfl rfl; have c4_1 := S.c 4 1 rfl rfl; go_wp2_with fail; obtain ⟨d2_0, d2_1, d2_2⟩ := S.c3 2 rfl
    exact bodyPost_ret (v := .tuple #[.agg #[.bool b, .slice p l K, .slice q' j J], .int .i64 0]) (by simp [results, Tryz.f59, go_sem, d2_0, d2_1, d2_2]) rfl (⟨⟨_, rfl, b, p, l, K, q', j, J, rfl, hb, nn, dd⟩, S.below⟩)
set_option maxRecDepth 100000 in
set_option maxHeartbeats 4000000 in
theorem vscale1_any {va : Value} {x y : Rat} {w : World} {g : Nat} {b2 : Bool} {q1 q2 : Option Addr} {j1 J1 j2 J2 : Nat} (ha : IsRat w va x) (hg : g < w.heap.size) (e0 : w.cell? ⟨g, 0, none⟩ = some (.bool b2)) (e1 : w.cell? ⟨g, 1, none⟩ = some (.slice q1 j1 J1)) (e2 : w.cell? ⟨g, 2, none⟩ = some (.slice q2 j2 J2))
    (h2 : Hid (negB y.num = b2)) (n3 : IsNat w (.slice q1 j1 J1) y.num.natAbs) (n4 : IsNat w (.slice q2 j2 J2) y.den) {k1 k2 : Nat} (hx : RB x k1) (hy : RB y k2) (hk : k1 + k2 ≤ 511) :
    Calls Tryz.prog 58 #[va, .pointer (some ⟨g, 0, none⟩)] w fun e w' => (∃ r, e = .returned (.tuple #[r, .int .i64 0]) ∧ IsRat w' r (x * y)) ∧ Below w.heap.size w w' := by
  obtain ⟨b1, p1, l1, K1, p2, l2, K2, rfl, h1, n1, n2⟩ := ha
  have HK := Lib.hid (And.intro hx (And.intro hy hk))
  clear hx hy hk
  have S := ((St.start w).alloc 39 [.bool b1, .slice p1 l1 K1, .slice p2 l2 K2] (w.heap.size)).alloc 39 [.bool false, .slice none 0 0, .slice none 0 0] (w.heap.size + 1)
  try simp only [List.cons_append, List.nil_append] at S
  refine iv4 S.hold n1 n2 n3 n4 ?_; clear n1 n2 n3 n4; intro n1 n2 n3 n4
  obtain ⟨c0_0, c0_1, c0_2⟩ := S.c3 0 rfl; obtain ⟨c1_0, c1_1, c1_2⟩ := S.c3 1 rfl
  go_enter Tryz.func58, Tryz.ntmps58
  replace e0 := (S.below.cell (p := ⟨g, 0, none⟩) hg).trans e0
  replace e1 := (S.below.cell (p := ⟨g, 1, none⟩) hg).trans e1
  replace e2 := (S.below.cell (p := ⟨g, 2, none⟩) hg).trans e2
  go_wp2_with fail; clear c0_0 c0_1 c0_2 c1_0 c1_1 c1_2
  refine (S.call (rmul_any ⟨b1, p1, l1, K1, p2, l2, K2, rfl, h1, n1, n2⟩ ⟨b2, q1, j1, J1, q2, j2, J2, rfl, h2, n3, n4⟩ HK.out.1 HK.out.2.1 HK.out.2.2 _ rfl)).mono ?_
  clear S
  rintro e w1 ⟨⟨_, rfl, b3, p3, l3, K3, p4, l4, K4, rfl, h3, n5, n6⟩, S, H⟩
  refine iv4 H n1 n2 n3 n4 ?_; clear n1 n2 n3 n4; intro n1 n2 n3 n4
  clear H; obtain ⟨c0_0, c0_1, c0_2⟩ := S.c3 0 rfl; obtain ⟨c1_0, c1_1, c1_2⟩ := S.c3 1 rfl
  obtain ⟨f1_0, f1_1, f1_2⟩ := S.f3 1 rfl
  have HP := S.putq 1 (.bool b3) (.slice p3 l3 K3) (.slice p4 l4 K4) rfl rfl; have H := HP.2; replace S := HP.1; clear HP
  refine iv6 H n1 n2 n3 n4 n5 n6 ?_; clear n1 n2 n3 n4 n5 n6; intro n1 n2 n3 n4 n5 n6
  clear H; go_wp2_with fail; obtain ⟨d1_0, d1_1, d1_2⟩ := S.c3 1 rfl
  exact bodyPost_ret (v := .tuple #[.agg #[.bool b3, .slice p3 l3 K3, .slice p4 l4 K4], .int .i64 0]) (by simp [results, Tryz.f58, go_sem, d1_0, d1_1, d1_2]) rfl (⟨⟨_, rfl, b3, p3, l3, K3, p4, l4, K4, rfl, h3, n5, n6⟩, S.below⟩)
set_option maxRecDepth 100000 in
set_option maxHeartbeats 4000000 in
theorem vscale_any {va vb : Value} {xs : List Rat} {y : Rat} {w : World} (ha : Rats w va xs) (hb : IsRat w vb y) (n : Nat) (hla : xs.length = n) (hn : n ≤ 1000000) {k1 k2 : Nat} (hx : ∀ q, q ∈ xs → RB q k1) (hy : RB y k2) (hk : k1 + k2 ≤ 511) :
    Calls Tryz.prog 25 #[va, vb] w fun e w' => (∃ v, e = .returned (.tuple #[v, .int .i64 0]) ∧ FreshR w w' v (xs.map (· * y))) ∧ Below w.heap.size w w' := by
  obtain ⟨b2, q1, j1, J1, q2, j2, J2, rfl, h2, n3, n4⟩ := hb
  have HK := Lib.hid (And.intro ha (And.intro hla (And.intro hn (And.intro hx (And.intro hy hk)))))
  clear ha hla hn hx hy hk
  have S := (St.start w).alloc 39 [.bool b2, .slice q1 j1 J1, .slice q2 j2 J2] (w.heap.size)
  try simp only [List.nil_append] at S
  replace n3 := n3.hold S.hold; replace n4 := n4.hold S.hold
  obtain ⟨c0_0, c0_1, c0_2⟩ := S.c3 0 rfl
  go_enter Tryz.func25, Tryz.ntmps25
  have HR := Lib.hid (HK.out.1.to S.below)
  go_wp2_with fail; clear c0_0 c0_1 c0_2
  refine (S.call (vplace_any HR.out n HK.out.2.1 HK.out.2.2.1 58 (.pointer (some ⟨w.heap.size, 0, none⟩)) (· * y) (fun _ _ => by kernel_rfl) (fun W u k x hB hx hu => vscale1_any hu (Nat.lt_of_lt_of_le (S.lt 0 rfl) hB.size) ((hB.cell (p := ⟨w.heap.size, 0, none⟩) (S.lt 0 rfl)).trans (S.c 0 0 rfl rfl)) ((hB.cell (p := ⟨w.heap.size, 1, none⟩) (S.lt 0 rfl)).trans (S.c 0 1 rfl rfl)) ((hB.cell (p := ⟨w.heap.size, 2, none⟩) (S.lt 0 rfl)).trans (S.c 0 2 rfl rfl)) h2 (n3.below hB (Nat.le_refl _)) (n4.below hB (Nat.le_refl _)) (HK.out.2.2.2.1 x (List.mem_of_getElem? hx)) HK.out.2.2.2.2.1 HK.out.2.2.2.2.2))).mono ?_
  clear S
  rintro e w1 ⟨⟨v, rfl, hv⟩, S, H⟩
  replace n3 := n3.hold H; replace n4 := n4.hold H
  clear H; obtain ⟨c0_0, c0_1, c0_2⟩ := S.c3 0 rfl; go_wp2_with fail
  exact bodyPost_ret (v := .tuple #[v, .int .i64 0]) (by simp [results, Tryz.f25, go_sem]) rfl (⟨⟨_, rfl, hv.from (by simp)⟩, S.below⟩)
set_option maxRecDepth 100000 in
set_option maxHeartbeats 4000000 in
theorem radd_any {va vb : Value} {x y : Rat} {w : World} (ha : IsRat w va x) (hb : IsRat w vb y) {k1 k2 : Nat} (hx : RB x k1) (hy : RB y k2) (hk : k1 + k2 ≤ 511) (q : Rat) (hq : x + y = q) :
    Calls Tryz.prog 61 #[va, vb] w fun e w' => (∃ u, e = .returned (.tuple #[u, .int .i64 0]) ∧ IsRat w' u q) ∧ Below w.heap.size w w' := by
  obtain ⟨b1, p1, l1, K1, q1, j1, J1, rfl, hb1, n1, d1⟩ := ha
  obtain ⟨b2, p2, l2, K2, q2, j2, J2, rfl, hb2, n2, d2⟩ := hb
  obtain ⟨X, hX⟩ : ∃ X, x.num * y.den = X := ⟨_, rfl⟩
  obtain ⟨Y, hY⟩ : ∃ Y, y.num * x.den = Y := ⟨_, rfl⟩
  obtain ⟨Z, hZ⟩ : ∃ Z, X + Y = Z := ⟨_, rfl⟩
  obtain ⟨D, hD⟩ : ∃ D, ((x.den * y.den : Nat) : Int) = D := ⟨_, rfl⟩
  have hb := rbz hx hy
  rw [hX, hY] at hb
  have hZb : Z.natAbs < NB (k1 + k2 + 1) := hZ ▸ nbz_add hb.1 hb.2.1
  have hD0 : D ≠ 0 := by rw [← hD]; have := Nat.mul_pos x.den_pos y.den_pos; omega
  have hDb : D.natAbs < maxN := by rw [← hD, Int.natAbs_natCast]; exact nb_max hb.2.2.1 (by omega)
  have hdd : (x.den : Int) * (y.den : Int) = D := by rw [← hD, Int.natCast_mul]
  have hq2 : q = Rat.divInt Z D := by rw [← hq, add_divInt, hX, hY, hZ, hD]
  have HX := Lib.hid (And.intro (rb_max hx (by omega)) (rb_max hy (by omega)))
  have HD := Lib.hid (And.intro hX (And.intro hY (And.intro hZ (And.intro hdd (And.intro hq2 hD0)))))
  have HB := Lib.hid (And.intro (nb_max hb.1 (by omega)) (And.intro (nb_max hb.2.1 (by omega)) (And.intro (nb_max hZb (by omega)) hDb)))
  clear hX hY hZ hD hb hZb hD0 hDb hdd hq hq2 hx hy hk
  have S := (((St.start w).alloc 39 [.bool b1, .slice p1 l1 K1, .slice q1 j1 J1] (w.heap.size)).alloc 39 [.bool b2, .slice p2 l2 K2, .slice q2 j2 J2] (w.heap.size + 1)).alloc 39 [.bool false, .slice none 0 0, .slice none 0 0] (w.heap.size + 1 + 1)
  try simp only [List.cons_append, List.nil_append] at S
  refine iv4 S.hold n1 d1 n2 d2 ?_; clear n1 d1 n2 d2; intro n1 d1 n2 d2
  obtain ⟨c0_0, c0_1, c0_2⟩ := S.c3 0 rfl; obtain ⟨c1_0, c1_1, c1_2⟩ := S.c3 1 rfl; obtain ⟨c2_0, c2_1, c2_2⟩ := S.c3 2 rfl
  go_enter Tryz.func61, Tryz.ntmps61
  go_wp2_with fail; clear c0_0 c0_1 c0_2 c1_0 c1_1 c1_2 c2_0 c2_1 c2_2
  refine (S.call (cross_any ⟨b1, p1, l1, K1, q1, j1, J1, rfl, hb1, n1, d1⟩ ⟨b2, p2, l2, K2, q2, j2, J2, rfl, hb2, n2, d2⟩ HX.out.1.1 HX.out.1.2 HX.out.2.1 HX.out.2.2 X Y HD.out.1 HD.out.2.1 HB.out.1 HB.out.2.1)).mono ?_
  clear S
  rintro e w1 ⟨⟨_, _, rfl, ⟨px, lx, Kx, rfl, nx⟩, ⟨py, ly, Ky, rfl, ny⟩⟩, S, H⟩
  refine iv4 H n1 d1 n2 d2 ?_; clear n1 d1 n2 d2; intro n1 d1 n2 d2
  clear H; obtain ⟨c0_0, c0_1, c0_2⟩ := S.c3 0 rfl; obtain ⟨c1_0, c1_1, c1_2⟩ := S.c3 1 rfl; obtain ⟨c2_0, c2_1, c2_2⟩ := S.c3 2 rfl
  have H := S.hnew 37 [.bool (negB X), .slice px lx Kx]
  replace S := S.al 37 [.bool (negB X), .slice px lx Kx] (w1.heap.size)
  refine iv6 H n1 d1 n2 d2 nx ny ?_; clear n1 d1 n2 d2 nx ny; intro n1 d1 n2 d2 nx ny
  clear H
  have H := S.hnew 37 [.bool (negB Y), .slice py ly Ky]
  replace S := S.al 37 [.bool (negB Y), .slice py ly Ky] (w1.heap.size + 1)
  refine iv6 H n1 d1 n2 d2 nx ny ?_; clear n1 d1 n2 d2 nx ny; intro n1 d1 n2 d2 nx ny
  clear H; clear c0_0 c0_1 c0_2 c1_0 c1_1 c1_2 c2_0 c2_1 c2_2; obtain ⟨c0_0, c0_1, c0_2⟩ := S.c3 0 rfl; obtain ⟨c1_0, c1_1, c1_2⟩ := S.c3 1 rfl; obtain ⟨c2_0, c2_1, c2_2⟩ := S.c3 2 rfl; have c3_0 := S.c 3 0 rfl rfl; have c3_1 := S.c 3 1 rfl rfl; have c4_0 := S.c 4 0 rfl rfl; have c4_1 := S.c 4 1 rfl rfl; go_wp2_with fail; clear c0_0 c0_1 c0_2 c1_0 c1_1 c1_2 c2_0 c2_1 c2_2 c3_0 c3_1 c4_0 c4_1
  refine (S.call (wadd_to ⟨_, _, _, rfl, nx⟩ ⟨_, _, _, rfl, ny⟩ HB.out.1 HB.out.2.1 Z HD.out.2.2.1 HB.out.2.2.1)).mono ?_
  clear S
  rintro e w2 ⟨⟨_, rfl, pz, lz, Kz, rfl, nz⟩, S, H⟩
  refine iv6 H n1 d1 n2 d2 nx ny ?_; clear n1 d1 n2 d2 nx ny; intro n1 d1 n2 d2 nx ny
  clear H; obtain ⟨c0_0, c0_1, c0_2⟩ := S.c3 0 rfl; obtain ⟨c1_0, c1_1, c1_2⟩ := S.c3 1 rfl; obtain ⟨c2_0, c2_1, c2_2⟩ := S.c3 2 rfl; have c3_0 := S.c 3 0 rfl rfl; have c3_1 := S.c 3 1 rfl rfl; have c4_0 := S.c 4 0 rfl rfl; have c4_1 := S.c 4 1 rfl rfl
  have H := S.hnew 37 [.bool (negB Z), .slice pz lz Kz]
  replace S := S.al 37 [.bool (negB Z), .slice pz lz Kz] (w2.heap.size)
  refine iv7 H n1 d1 n2 d2 nx ny nz ?_; clear n1 d1 n2 d2 nx ny nz; intro n1 d1 n2 d2 nx ny nz
  clear H; clear c0_0 c0_1 c0_2 c1_0 c1_1 c1_2 c2_0 c2_1 c2_2 c3_0 c3_1 c4_0 c4_1; obtain ⟨c0_0, c0_1, c0_2⟩ := S.c3 0 rfl; obtain ⟨c1_0, c1_1, c1_2⟩ := S.c3 1 rfl; obtain ⟨c2_0, c2_1, c2_2⟩ := S.c3 2 rfl; have c3_0 := S.c 3 0 rfl rfl; have c3_1 := S.c 3 1 rfl rfl; have c4_0 := S.c 4 0 rfl rfl; have c4_1 := S.c 4 1 rfl rfl; have c5_0 := S.c 5 0 rfl rfl; have c5_1 := S.c 5 1 rfl rfl
  go_upto_region 5 with fail
  clear c0_0 c0_1 c0_2 c1_0 c1_1 c1_2 c2_0 c2_1 c2_2 c3_0 c3_1 c4_0 c4_1 c5_0 c5_1
  generalize (w2.alloc (.cells #[.bool (negB Z), .slice pz lz Kz] 37)) = w3 at S n1 d1 n2 d2 nx ny nz ⊢
  go_cut [10, 11] (fun s10 s11 wx => ∃ g10 pd ld Kd, s10 = .pointer (some ⟨g10, 0, none⟩) ∧ s11 = .int .i64 0 ∧ St w wx [(w.heap.size, 39, [.bool b1, .slice p1 l1 K1, .slice q1 j1 J1]), (w.heap.size + 1, 39, [.bool b2, .slice p2 l2 K2, .slice q2 j2 J2]), (w.heap.size + 1 + 1, 39, [.bool false, .slice none 0 0, .slice none 0 0]), (w1.heap.size, 37, [.bool (negB X), .slice px lx Kx]), (w1.heap.size + 1, 37, [.bool (negB Y), .slice py ly Ky]), (w2.heap.size, 37, [.bool (negB Z), .slice pz lz Kz]), (g10, 37, [.bool (negB D), .slice pd ld Kd])] ∧ IsNat wx (.slice pd ld Kd) D.natAbs ∧ Hold w3 wx)
  case first =>
    have HH := Hold.drew w3
    refine iv7 HH n1 d1 n2 d2 nx ny nz ?_; clear n1 d1 n2 d2 nx ny nz; intro n1 d1 n2 d2 nx ny nz
    replace S := S.drew
    refine wp_region_held_drew (S := fun W => W.cell? ⟨w.heap.size, 2, none⟩ = some (.slice q1 j1 J1) ∧ W.cell? ⟨w.heap.size + 1, 2, none⟩ = some (.slice q2 j2 J2)) (by kernel_rfl) ⟨(S.c 0 2 rfl rfl), (S.c 1 2 rfl rfl)⟩ (fun hS => ?_)
    generalize w3.drew = w4 at S n1 d1 n2 d2 nx ny nz HH hS ⊢
    refine tk 0 hS ?_
    refine tk 1 hS ?_
    refine tk 3 hS ?_
    refine tk 4 hS ?_
    refine wpAnyH_ready (rs := [2, 10]) (by kernel_rfl) (by simp) (AllReadyH.cons (opOf rfl) (fun KK hKK => ?_) (AllReadyH.cons (opOf rfl) (fun KK hKK => ?_) AllReadyH.nil))
    ·
      go_simp; clear hS
      refine (S.call (wnat_any d1 HX.out.1.2 (x.den : Int) rfl)).mono ?_
      clear S
      rintro e w5 ⟨⟨_, rfl, pa, la, Ka, rfl, na⟩, S, H⟩
      refine iv7 H n1 d1 n2 d2 nx ny nz ?_; clear n1 d1 n2 d2 nx ny nz; intro n1 d1 n2 d2 nx ny nz; replace HH := HH.trans H; clear H
      go_wp2_with fail
      refine ho hKK ⟨(S.c 0 2 rfl rfl), (S.c 1 2 rfl rfl)⟩ fun hS => ?_
      clear hKK KK
      refine wpAnyH_ready (rs := [5, 10]) (by kernel_rfl) (by simp) (AllReadyH.cons (opOf rfl) (fun KK hKK => ?_) (AllReadyH.cons (opOf rfl) (fun KK hKK => ?_) AllReadyH.nil))
      ·
        go_simp; clear hS
        refine (S.call (wnat_any d2 HX.out.2.2 (y.den : Int) rfl)).mono ?_
        clear S
        rintro e w6 ⟨⟨_, rfl, pb, lb, Kb, rfl, nb⟩, S, H⟩
        refine iv8 H n1 d1 n2 d2 nx ny nz na ?_; clear n1 d1 n2 d2 nx ny nz na; intro n1 d1 n2 d2 nx ny nz na; replace HH := HH.trans H; clear H
        go_wp2_with fail
        refine ho hKK ⟨(S.c 0 2 rfl rfl), (S.c 1 2 rfl rfl)⟩ fun hS => ?_
        clear hKK KK
        refine wpAnyH_ready (rs := [6, 10]) (by kernel_rfl) (by simp) (AllReadyH.cons (opOf rfl) (fun KK hKK => ?_) (AllReadyH.cons (opOf rfl) (fun KK hKK => ?_) AllReadyH.nil))
        ·
          go_simp; clear hS
          refine (S.call (wmul_to ⟨_, _, _, rfl, na⟩ ⟨_, _, _, rfl, nb⟩ HX.out.1.2 HX.out.2.2 D HD.out.2.2.2.1 HB.out.2.2.2)).mono ?_
          clear S
          rintro e w7 ⟨⟨_, rfl, pd, ld, Kd, rfl, nd⟩, S, H⟩
          refine iv8 H n1 d1 n2 d2 nx ny nz na ?_; clear n1 d1 n2 d2 nx ny nz na; intro n1 d1 n2 d2 nx ny nz na; replace nb := nb.hold H; replace HH := HH.trans H; clear H
          go_wp2_with fail
          refine ho hKK ⟨(S.c 0 2 rfl rfl), (S.c 1 2 rfl rfl)⟩ fun hS => ?_
          clear hKK KK
          refine tk 7 hS ?_
          refine tk 8 hS ?_
          refine tk 9 hS ?_
          refine rd 10 fun KK hKK => ?_
          go_simp; clear hS
          have H := S.hnew 37 [.bool false, .slice none 0 0]
          replace S := S.al 37 [.bool false, .slice none 0 0] (w7.heap.size)
          refine iv8 H n1 d1 n2 d2 nx ny nz na ?_; clear n1 d1 n2 d2 nx ny nz na; intro n1 d1 n2 d2 nx ny nz na; refine iv2 H nb nd ?_; clear nb nd; intro nb nd; replace HH := HH.trans H; clear H
          refine ho hKK ⟨(S.c 0 2 rfl rfl), (S.c 1 2 rfl rfl)⟩ fun hS => ?_
          generalize (w7.alloc (.cells #[.bool false, .slice none 0 0] 37)) = w8 at S n1 d1 n2 d2 nx ny nz na nb nd HH hS ⊢
          clear hKK KK
          refine rd 11 fun KK hKK => ?_
          have c0 := S.c 6 0 rfl rfl; have f0 := S.f 6 0 rfl; have c1 := S.c 6 1 rfl rfl; have f1 := S.f 6 1 rfl; go_simp; clear hS c0 f0 c1 f1
          have H := S.hset 6 0 (.bool (negB D)) rfl rfl (by intro q n e; cases e)
          replace S := S.set 6 0 (.bool (negB D)) rfl
          refine iv8 H n1 d1 n2 d2 nx ny nz na ?_; clear n1 d1 n2 d2 nx ny nz na; intro n1 d1 n2 d2 nx ny nz na; refine iv2 H nb nd ?_; clear nb nd; intro nb nd; replace HH := HH.trans H; clear H
          have H := S.hset 6 1 (.slice pd ld Kd) rfl rfl (by intro q n e; cases e)
          replace S := S.set 6 1 (.slice pd ld Kd) rfl
          refine iv8 H n1 d1 n2 d2 nx ny nz na ?_; clear n1 d1 n2 d2 nx ny nz na; intro n1 d1 n2 d2 nx ny nz na; refine iv2 H nb nd ?_; clear nb nd; intro nb nd; replace HH := HH.trans H; clear H
          refine ho hKK ⟨(S.c 0 2 rfl rfl), (S.c 1 2 rfl rfl)⟩ fun hS => ?_
          generalize ((w8.setCell ⟨w7.heap.size, 0, none⟩ (.bool (negB D))).setCell ⟨w7.heap.size, 1, none⟩ (.slice pd ld Kd)) = w9 at S n1 d1 n2 d2 nx ny nz na nb nd HH hS ⊢
          clear hKK KK
          refine rd 12 fun KK hKK => ?_
          go_simp
          refine ho hKK hS fun hS => ?_
          clear hKK KK
          refine wpAnyH_done (by kernel_rfl) ?_ _
          go_wp2_with fail
          go_meet
          case rel => exact ⟨w7.heap.size, pd, ld, Kd, rfl, rfl, S, nd, HH⟩
        ·
          go_simp; clear hS
          have H := S.hnew 37 [.bool false, .slice none 0 0]
          replace S := S.al 37 [.bool false, .slice none 0 0] (w6.heap.size)
          refine iv8 H n1 d1 n2 d2 nx ny nz na ?_; clear n1 d1 n2 d2 nx ny nz na; intro n1 d1 n2 d2 nx ny nz na; replace nb := nb.hold H; replace HH := HH.trans H; clear H
          refine ho hKK ⟨(S.c 0 2 rfl rfl), (S.c 1 2 rfl rfl)⟩ fun hS => ?_
          generalize (w6.alloc (.cells #[.bool false, .slice none 0 0] 37)) = w10 at S n1 d1 n2 d2 nx ny nz na nb HH hS ⊢
          clear hKK KK
          refine rd 6 fun KK hKK => ?_
          go_simp; clear hS
          refine (S.call (wmul_to ⟨_, _, _, rfl, na⟩ ⟨_, _, _, rfl, nb⟩ HX.out.1.2 HX.out.2.2 D HD.out.2.2.2.1 HB.out.2.2.2)).mono ?_
          clear S
          rintro e w11 ⟨⟨_, rfl, pd, ld, Kd, rfl, nd⟩, S, H⟩
          refine iv8 H n1 d1 n2 d2 nx ny nz na ?_; clear n1 d1 n2 d2 nx ny nz na; intro n1 d1 n2 d2 nx ny nz na; replace nb := nb.hold H; replace HH := HH.trans H; clear H
          go_wp2_with fail
          refine ho hKK ⟨(S.c 0 2 rfl rfl), (S.c 1 2 rfl rfl)⟩ fun hS => ?_
          clear hKK KK
          refine tk 7 hS ?_
          refine tk 8 hS ?_
          refine tk 9 hS ?_
          refine rd 11 fun KK hKK => ?_
          have c0 := S.c 6 0 rfl rfl; have f0 := S.f 6 0 rfl; have c1 := S.c 6 1 rfl rfl; have f1 := S.f 6 1 rfl; go_simp; clear hS c0 f0 c1 f1
          have H := S.hset 6 0 (.bool (negB D)) rfl rfl (by intro q n e; cases e)
          replace S := S.set 6 0 (.bool (negB D)) rfl
          refine iv8 H n1 d1 n2 d2 nx ny nz na ?_; clear n1 d1 n2 d2 nx ny nz na; intro n1 d1 n2 d2 nx ny nz na; refine iv2 H nb nd ?_; clear nb nd; intro nb nd; replace HH := HH.trans H; clear H
          have H := S.hset 6 1 (.slice pd ld Kd) rfl rfl (by intro q n e; cases e)
          replace S := S.set 6 1 (.slice pd ld Kd) rfl
          refine iv8 H n1 d1 n2 d2 nx ny nz na ?_; clear n1 d1 n2 d2 nx ny nz na; intro n1 d1 n2 d2 nx ny nz na; refine iv2 H nb nd ?_; clear nb nd; intro nb nd; replace HH := HH.trans H; clear H
          refine ho hKK ⟨(S.c 0 2 rfl rfl), (S.c 1 2 rfl rfl)⟩ fun hS => ?_
          generalize ((w11.setCell ⟨w6.heap.size, 0, none⟩ (.bool (negB D))).setCell ⟨w6.heap.size, 1, none⟩ (.slice pd ld Kd)) = w12 at S n1 d1 n2 d2 nx ny nz na nb nd HH hS ⊢
          clear hKK KK
          refine rd 12 fun KK hKK => ?_
          go_simp
          refine ho hKK hS fun hS => ?_
          clear hKK KK
          refine wpAnyH_done (by kernel_rfl) ?_ _
          go_wp2_with fail
          go_meet
          case rel => exact ⟨w6.heap.size, pd, ld, Kd, rfl, rfl, S, nd, HH⟩
      ·
        go_simp; clear hS
        have H := S.hnew 37 [.bool false, .slice none 0 0]
        replace S := S.al 37 [.bool false, .slice none 0 0] (w5.heap.size)
        refine iv8 H n1 d1 n2 d2 nx ny nz na ?_; clear n1 d1 n2 d2 nx ny nz na; intro n1 d1 n2 d2 nx ny nz na; replace HH := HH.trans H; clear H
        refine ho hKK ⟨(S.c 0 2 rfl rfl), (S.c 1 2 rfl rfl)⟩ fun hS => ?_
        generalize (w5.alloc (.cells #[.bool false, .slice none 0 0] 37)) = w13 at S n1 d1 n2 d2 nx ny nz na HH hS ⊢
        clear hKK KK
        refine rd 5 fun KK hKK => ?_
        go_simp; clear hS
        refine (S.call (wnat_any d2 HX.out.2.2 (y.den : Int) rfl)).mono ?_
        clear S
        rintro e w14 ⟨⟨_, rfl, pb, lb, Kb, rfl, nb⟩, S, H⟩
        refine iv8 H n1 d1 n2 d2 nx ny nz na ?_; clear n1 d1 n2 d2 nx ny nz na; intro n1 d1 n2 d2 nx ny nz na; replace HH := HH.trans H; clear H
        go_wp2_with fail
        refine ho hKK ⟨(S.c 0 2 rfl rfl), (S.c 1 2 rfl rfl)⟩ fun hS => ?_
        clear hKK KK
        refine rd 6 fun KK hKK => ?_
        go_simp; clear hS
        refine (S.call (wmul_to ⟨_, _, _, rfl, na⟩ ⟨_, _, _, rfl, nb⟩ HX.out.1.2 HX.out.2.2 D HD.out.2.2.2.1 HB.out.2.2.2)).mono ?_
        clear S
        rintro e w15 ⟨⟨_, rfl, pd, ld, Kd, rfl, nd⟩, S, H⟩
        refine iv8 H n1 d1 n2 d2 nx ny nz na ?_; clear n1 d1 n2 d2 nx ny nz na; intro n1 d1 n2 d2 nx ny nz na; replace nb := nb.hold H; replace HH := HH.trans H; clear H
        go_wp2_with fail
        refine ho hKK ⟨(S.c 0 2 rfl rfl), (S.c 1 2 rfl rfl)⟩ fun hS => ?_
        clear hKK KK
        refine tk 7 hS ?_
        refine tk 8 hS ?_
        refine tk 9 hS ?_
        refine rd 11 fun KK hKK => ?_
        have c0 := S.c 6 0 rfl rfl; have f0 := S.f 6 0 rfl; have c1 := S.c 6 1 rfl rfl; have f1 := S.f 6 1 rfl; go_simp; clear hS c0 f0 c1 f1
        have H := S.hset 6 0 (.bool (negB D)) rfl rfl (by intro q n e; cases e)
        replace S := S.set 6 0 (.bool (negB D)) rfl
        refine iv8 H n1 d1 n2 d2 nx ny nz na ?_; clear n1 d1 n2 d2 nx ny nz na; intro n1 d1 n2 d2 nx ny nz na; refine iv2 H nb nd ?_; clear nb nd; intro nb nd; replace HH := HH.trans H; clear H
        have H := S.hset 6 1 (.slice pd ld Kd) rfl rfl (by intro q n e; cases e)
        replace S := S.set 6 1 (.slice pd ld Kd) rfl
        refine iv8 H n1 d1 n2 d2 nx ny nz na ?_; clear n1 d1 n2 d2 nx ny nz na; intro n1 d1 n2 d2 nx ny nz na; refine iv2 H nb nd ?_; clear nb nd; intro nb nd; replace HH := HH.trans H; clear H
        refine ho hKK ⟨(S.c 0 2 rfl rfl), (S.c 1 2 rfl rfl)⟩ fun hS => ?_
        generalize ((w15.setCell ⟨w5.heap.size, 0, none⟩ (.bool (negB D))).setCell ⟨w5.heap.size, 1, none⟩ (.slice pd ld Kd)) = w16 at S n1 d1 n2 d2 nx ny nz na nb nd HH hS ⊢
        clear hKK KK
        refine rd 12 fun KK hKK => ?_
        go_simp
        refine ho hKK hS fun hS => ?_
        clear hKK KK
        refine wpAnyH_done (by kernel_rfl) ?_ _
        go_wp2_with fail
        go_meet
        case rel => exact ⟨w5.heap.size, pd, ld, Kd, rfl, rfl, S, nd, HH⟩
    ·
      go_simp; clear hS
      have H := S.hnew 37 [.bool false, .slice none 0 0]
      replace S := S.al 37 [.bool false, .slice none 0 0] (w4.heap.size)
      refine iv7 H n1 d1 n2 d2 nx ny nz ?_; clear n1 d1 n2 d2 nx ny nz; intro n1 d1 n2 d2 nx ny nz; replace HH := HH.trans H; clear H
      refine ho hKK ⟨(S.c 0 2 rfl rfl), (S.c 1 2 rfl rfl)⟩ fun hS => ?_
      generalize (w4.alloc (.cells #[.bool false, .slice none 0 0] 37)) = w17 at S n1 d1 n2 d2 nx ny nz HH hS ⊢
      clear hKK KK
      refine rd 2 fun KK hKK => ?_
      go_simp; clear hS
      refine (S.call (wnat_any d1 HX.out.1.2 (x.den : Int) rfl)).mono ?_
      clear S
      rintro e w18 ⟨⟨_, rfl, pa, la, Ka, rfl, na⟩, S, H⟩
      refine iv7 H n1 d1 n2 d2 nx ny nz ?_; clear n1 d1 n2 d2 nx ny nz; intro n1 d1 n2 d2 nx ny nz; replace HH := HH.trans H; clear H
      go_wp2_with fail
      refine ho hKK ⟨(S.c 0 2 rfl rfl), (S.c 1 2 rfl rfl)⟩ fun hS => ?_
      clear hKK KK
      refine rd 5 fun KK hKK => ?_
      go_simp; clear hS
      refine (S.call (wnat_any d2 HX.out.2.2 (y.den : Int) rfl)).mono ?_
      clear S
      rintro e w19 ⟨⟨_, rfl, pb, lb, Kb, rfl, nb⟩, S, H⟩
      refine iv8 H n1 d1 n2 d2 nx ny nz na ?_; clear n1 d1 n2 d2 nx ny nz na; intro n1 d1 n2 d2 nx ny nz na; replace HH := HH.trans H; clear H
      go_wp2_with fail
      refine ho hKK ⟨(S.c 0 2 rfl rfl), (S.c 1 2 rfl rfl)⟩ fun hS => ?_
      clear hKK KK
      refine rd 6 fun KK hKK => ?_
      go_simp; clear hS
      refine (S.call (wmul_to ⟨_, _, _, rfl, na⟩ ⟨_, _, _, rfl, nb⟩ HX.out.1.2 HX.out.2.2 D HD.out.2.2.2.1 HB.out.2.2.2)).mono ?_
      clear S
      rintro e w20 ⟨⟨_, rfl, pd, ld, Kd, rfl, nd⟩, S, H⟩
      refine iv8 H n1 d1 n2 d2 nx ny nz na ?_; clear n1 d1 n2 d2 nx ny nz na; intro n1 d1 n2 d2 nx ny nz na; replace nb := nb.hold H; replace HH := HH.trans H; clear H
      go_wp2_with fail
      refine ho hKK ⟨(S.c 0 2 rfl rfl), (S.c 1 2 rfl rfl)⟩ fun hS => ?_
      clear hKK KK
      refine tk 7 hS ?_
      refine tk 8 hS ?_
      refine tk 9 hS ?_
      refine rd 11 fun KK hKK => ?_
      have c0 := S.c 6 0 rfl rfl; have f0 := S.f 6 0 rfl; have c1 := S.c 6 1 rfl rfl; have f1 := S.f 6 1 rfl; go_simp; clear hS c0 f0 c1 f1
      have H := S.hset 6 0 (.bool (negB D)) rfl rfl (by intro q n e; cases e)
      replace S := S.set 6 0 (.bool (negB D)) rfl
      refine iv8 H n1 d1 n2 d2 nx ny nz na ?_; clear n1 d1 n2 d2 nx ny nz na; intro n1 d1 n2 d2 nx ny nz na; refine iv2 H nb nd ?_; clear nb nd; intro nb nd; replace HH := HH.trans H; clear H
      have H := S.hset 6 1 (.slice pd ld Kd) rfl rfl (by intro q n e; cases e)
      replace S := S.set 6 1 (.slice pd ld Kd) rfl
      refine iv8 H n1 d1 n2 d2 nx ny nz na ?_; clear n1 d1 n2 d2 nx ny nz na; intro n1 d1 n2 d2 nx ny nz na; refine iv2 H nb nd ?_; clear nb nd; intro nb nd; replace HH := HH.trans H; clear H
      refine ho hKK ⟨(S.c 0 2 rfl rfl), (S.c 1 2 rfl rfl)⟩ fun hS => ?_
      generalize ((w20.setCell ⟨w4.heap.size, 0, none⟩ (.bool (negB D))).setCell ⟨w4.heap.size, 1, none⟩ (.slice pd ld Kd)) = w21 at S n1 d1 n2 d2 nx ny nz na nb nd HH hS ⊢
      clear hKK KK
      refine rd 12 fun KK hKK => ?_
      go_simp
      refine ho hKK hS fun hS => ?_
      clear hKK KK
      refine wpAnyH_done (by kernel_rfl) ?_ _
      go_wp2_with fail
      go_meet
      case rel => exact ⟨w4.heap.size, pd, ld, Kd, rfl, rfl, S, nd, HH⟩
  case rest =>
    obtain ⟨g10, pd, ld, Kd, rfl, rfl, S, nd, HH⟩ := hcut
    obtain ⟨w22, rfl⟩ : ∃ W : World, W = wc := ⟨_, rfl⟩
    refine iv7 HH n1 d1 n2 d2 nx ny nz ?_; clear n1 d1 n2 d2 nx ny nz; intro n1 d1 n2 d2 nx ny nz; clear HH; obtain ⟨c0_0, c0_1, c0_2⟩ := S.c3 0 rfl; obtain ⟨c1_0, c1_1, c1_2⟩ := S.c3 1 rfl; obtain ⟨c2_0, c2_1, c2_2⟩ := S.c3 2 rfl; have c3_0 := S.c 3 0 rfl rfl; have c3_1 := S.c 3 1 rfl rfl; have c4_0 := S.c 4 0 rfl rfl; have c4_1 := S.c 4 1 rfl rfl; have c5_0 := S.c 5 0 rfl rfl; have c5_1 := S.c 5 1 rfl rfl; have c6_0 := S.c 6 0 rfl rfl; have c6_1 := S.c 6 1 rfl rfl
    go_upto_region 6 with fail
    clear c0_0 c0_1 c0_2 c1_0 c1_1 c1_2 c2_0 c2_1 c2_2 c3_0 c3_1 c4_0 c4_1 c5_0 c5_1 c6_0 c6_1
    have HH := Hold.drew w22
    refine iv8 HH n1 d1 n2 d2 nx ny nz nd ?_; clear n1 d1 n2 d2 nx ny nz nd; intro n1 d1 n2 d2 nx ny nz nd
    replace S := S.drew
    refine wp_region_held_drew (S := fun W => W.cell? ⟨w2.heap.size, 0, none⟩ = some (.bool (negB Z)) ∧ W.cell? ⟨w2.heap.size, 1, none⟩ = some (.slice pz lz Kz) ∧ W.cell? ⟨g10, 0, none⟩ = some (.bool (negB D)) ∧ W.cell? ⟨g10, 1, none⟩ = some (.slice pd ld Kd)) (by kernel_rfl) ⟨(S.c 5 0 rfl rfl), ⟨(S.c 5 1 rfl rfl), ⟨(S.c 6 0 rfl rfl), (S.c 6 1 rfl rfl)⟩⟩⟩ (fun hS => ?_)
    generalize w22.drew = w23 at S n1 d1 n2 d2 nx ny nz nd HH hS ⊢
    refine tk 0 hS ?_
    refine tk 1 hS ?_
    refine tk 2 hS ?_
    refine tk 3 hS ?_
    refine rd 4 fun KK hKK => ?_
    go_simp; clear hS
    have H := S.hnew 27 [.int .i64 0, .int .i64 0]
    replace S := S.al 27 [.int .i64 0, .int .i64 0] (w23.heap.size)
    refine iv8 H n1 d1 n2 d2 nx ny nz nd ?_; clear n1 d1 n2 d2 nx ny nz nd; intro n1 d1 n2 d2 nx ny nz nd; replace HH := HH.trans H; clear H
    refine ho hKK ⟨(S.c 5 0 rfl rfl), ⟨(S.c 5 1 rfl rfl), ⟨(S.c 6 0 rfl rfl), (S.c 6 1 rfl rfl)⟩⟩⟩ fun hS => ?_
    generalize (w23.alloc (.cells #[.int .i64 0, .int .i64 0] 27)) = w24 at S n1 d1 n2 d2 nx ny nz nd HH hS ⊢
    clear hKK KK
    refine rd 5 fun KK hKK => ?_
    go_simp; clear hS
    refine (S.call (or_two S 7 rfl)).mono ?_
    clear S
    rintro e w25 ⟨rfl, S, H⟩
    refine iv8 H n1 d1 n2 d2 nx ny nz nd ?_; clear n1 d1 n2 d2 nx ny nz nd; intro n1 d1 n2 d2 nx ny nz nd; replace HH := HH.trans H; clear H
    go_wp2_with fail
    refine ho hKK ⟨(S.c 5 0 rfl rfl), ⟨(S.c 5 1 rfl rfl), ⟨(S.c 6 0 rfl rfl), (S.c 6 1 rfl rfl)⟩⟩⟩ fun hS => ?_
    clear hKK KK
    refine rd 6 fun KK hKK => ?_
    go_simp; clear hS
    refine (S.call (over_any ⟨_, _, _, rfl, nz⟩ ⟨_, _, _, rfl, nd⟩ HB.out.2.2.1 HB.out.2.2.2 HD.out.2.2.2.2.2 q HD.out.2.2.2.2.1)).mono ?_
    clear S
    rintro e w26 ⟨⟨_, rfl, b, p, l, K, q', j, J, rfl, hb, nn, dd⟩, S, H⟩
    refine iv8 H n1 d1 n2 d2 nx ny nz nd ?_; clear n1 d1 n2 d2 nx ny nz nd; intro n1 d1 n2 d2 nx ny nz nd; replace HH := HH.trans H; clear H
    go_wp2_with fail
    refine ho hKK ⟨(S.c 5 0 rfl rfl), ⟨(S.c 5 1 rfl rfl), ⟨(S.c 6 0 rfl rfl), (S.c 6 1 rfl rfl)⟩⟩⟩ fun hS => ?_
    clear hKK KK
    refine tk 7 hS ?_
    refine tk 8 hS ?_
    refine rd 9 fun KK hKK => ?_
    obtain ⟨c0, c1, c2⟩ := S.c3 2 rfl; obtain ⟨f0, f1, f2⟩ := S.f3 2 rfl
    go_simp; clear hS c0 f0 c1 f1 c2 f2
    have HP := S.putq 2 (.bool b) (.slice p l K) (.slice q' j J) rfl rfl; have H := HP.2; replace S := HP.1; clear HP
    refine iv8 H n1 d1 n2 d2 nx ny nz nd ?_; clear n1 d1 n2 d2 nx ny nz nd; intro n1 d1 n2 d2 nx ny nz nd; refine iv2 H nn dd ?_; clear nn dd; intro nn dd; replace HH := HH.trans H; clear H
    refine ho hKK ⟨(S.c 5 0 rfl rfl), ⟨(S.c 5 1 rfl rfl), ⟨(S.c 6 0 rfl rfl), (S.c 6 1 rfl rfl)⟩⟩⟩ fun hS => ?_
    generalize (((w26.setCell ⟨w.heap.size + 1 + 1, 0, none⟩ (.bool b)).setCell ⟨w.heap.size + 1 + 1, 1, none⟩ (.slice p l K)).setCell ⟨w.heap.size + 1 + 1, 2, none⟩ (.slice q' j J)) = w27 at S n1 d1 n2 d2 nx ny nz nd nn dd HH hS ⊢
    clear hKK KK
    refine rd 10 fun KK hKK => ?_
    go_simp
    refine ho hKK hS fun hS => ?_
    clear hKK KK
    refine wpAnyH_done (by kernel_rfl) ?_ _
    clear hS HH; obtain ⟨c0_0, c0_1, c0_2⟩ := S.c3 0 rfl; obtain ⟨c1_0, c1_1, c1_2⟩ := S.c3 1 rfl; obtain ⟨c2_0, c2_1, c2_2⟩ := S.c3 2 rfl; have c3_0 := S.c 3 0 rfl rfl; have c3_1 := S.c 3 1 rfl rfl; have c4_0 := S.c 4 0 rfl rfl; have c4_1 := S.c 4 1 rfl rfl; have c5_0 := S.c 5 0 rfl rfl; have c5_1 := S.c 5 1 rfl rfl; have c6_0 := S.c 6 0 rfl rfl; have c6_1 := S.c 6 1 rfl rfl; go_wp2_with fail; obtain ⟨d2_0, d2_1, d2_2⟩ := S.c3 2 rfl
    exact bodyPost_ret (v := .tuple #[.agg #[.bool b, .slice p l K, .slice q' j J], .int .i64 0]) (by simp [results, Tryz.f61, go_sem, d2_0, d2_1, d2_2]) rfl (⟨⟨_, rfl, b, p, l, K, q', j, J, rfl, hb, nn, dd⟩, S.below⟩)
set_option maxRecDepth 100000 in
set_option maxHeartbeats 4000000 in
theorem vadd_any {va vb : Value} {xs ys : List Rat} {w : World} (ha : Rats w va xs) (hb : Rats w vb ys) (n : Nat) (hla : xs.length = n) (hlb : ys.length = n) (hn : n ≤ 1000000) {k1 k2 : Nat} (hx : ∀ q, q ∈ xs → RB q k1) (hy : ∀ q, q ∈ ys → RB q k2) (hk : k1 + k2 ≤ 511) :
    Calls Tryz.prog 26 #[va, vb] w fun e w' => (∃ v, e = .returned (.tuple #[v, .int .i64 0]) ∧ FreshR w w' v (List.zipWith (· + ·) xs ys)) ∧ Below w.heap.size w w' := by
  have HV := Lib.hid (vpair_any ha hb n hla hlb hn 61 (· + ·) (fun _ _ _ => by kernel_rfl) (fun W u v k x y h1 h2 hu hv => radd_any hu hv (hx x (List.mem_of_getElem? h1)) (hy y (List.mem_of_getElem? h2)) hk _ rfl))
  clear ha hb hla hlb hn hx hy hk
  have S := St.start w
  go_enter Tryz.func26, Tryz.ntmps26
  go_wp2_with fail
  refine (S.call (HV.out)).mono ?_
  clear S
  rintro e w1 ⟨⟨v, rfl, hv⟩, S, H⟩
  clear H; go_wp2_with fail
  exact bodyPost_ret (v := .tuple #[v, .int .i64 0]) (by simp [results, Tryz.f26, go_sem]) rfl (⟨⟨_, rfl, hv⟩, S.below⟩)
theorem abs_num (x : Rat) : (x.abs).num = x.num.natAbs ∧ (x.abs).den = x.den := by
  unfold Rat.abs
  split
  · rename_i h
    have := Rat.num_nonneg.2 h
    exact ⟨by omega, rfl⟩
  · rename_i h
    have : ¬ 0 ≤ x.num := fun e => h (Rat.num_nonneg.1 e)
    exact ⟨by rw [Rat.neg_num]; omega, rfl⟩
set_option maxRecDepth 100000 in
set_option maxHeartbeats 4000000 in
theorem rabs_any {va : Value} {x : Rat} {w : World} (ha : IsRat w va x) (hx : x.num.natAbs < maxN ∧ x.den < maxN) :
    Calls Tryz.prog 22 #[va] w fun e w' => (∃ u, e = .returned u ∧ IsRat w' u x.abs) ∧ Below w.heap.size w w' := by
  obtain ⟨b1, p1, l1, K1, q1, j1, J1, rfl, hb1, n1, d1⟩ := ha
  have HX := Lib.hid hx
  have HQ := Lib.hid (abs_num x)
  clear hx
  have S := ((St.start w).alloc 39 [.bool b1, .slice p1 l1 K1, .slice q1 j1 J1] (w.heap.size)).alloc 39 [.bool false, .slice none 0 0, .slice none 0 0] (w.heap.size + 1)
  try simp only [List.cons_append, List.nil_append] at S
  replace n1 := n1.hold S.hold; replace d1 := d1.hold S.hold
  obtain ⟨c0_0, c0_1, c0_2⟩ := S.c3 0 rfl; obtain ⟨c1_0, c1_1, c1_2⟩ := S.c3 1 rfl
  go_enter Tryz.func22, Tryz.ntmps22
  go_upto_region 1 with fail
  clear c0_0 c0_1 c0_2 c1_0 c1_1 c1_2
  generalize ((w.alloc (.cells #[.bool b1, .slice p1 l1 K1, .slice q1 j1 J1] 39)).alloc (.cells #[.bool false, .slice none 0 0, .slice none 0 0] 39)) = w1 at S n1 d1 ⊢
  have HH := Hold.drew w1
  replace n1 := n1.hold HH; replace d1 := d1.hold HH
  replace S := S.drew
  refine wp_region_held_drew (S := fun W => W.cell? ⟨w.heap.size, 0, none⟩ = some (.bool b1) ∧ W.cell? ⟨w.heap.size, 1, none⟩ = some (.slice p1 l1 K1) ∧ W.cell? ⟨w.heap.size, 2, none⟩ = some (.slice q1 j1 J1)) (by kernel_rfl) (S.c3 0 rfl) (fun hS => ?_)
  generalize w1.drew = w2 at S n1 d1 HH hS ⊢
  refine tk 0 hS ?_
  refine tk 1 hS ?_
  refine tk 3 hS ?_
  refine tk 4 hS ?_
  refine rd 2 fun KK hKK => ?_
  go_simp; clear hS
  refine (S.call (wabs_any ⟨_, _, _, by rw [hb1.out], n1⟩ HX.out.1 (x.num.natAbs : Int) rfl)).mono ?_
  clear S
  rintro e w3 ⟨⟨_, rfl, pa, la, Ka, rfl, na⟩, S, H⟩
  replace n1 := n1.hold H; replace d1 := d1.hold H; replace HH := HH.trans H; clear H
  go_wp2_with fail
  refine ho hKK (S.c3 0 rfl) fun hS => ?_
  clear hKK KK
  refine rd 5 fun KK hKK => ?_
  go_simp; clear hS
  refine (S.call (clone_any d1 HX.out.2)).mono ?_
  clear S
  rintro e w4 ⟨⟨_, rfl, nc⟩, S, H⟩
  refine iv3 H n1 d1 na ?_; clear n1 d1 na; intro n1 d1 na; replace HH := HH.trans H; clear H
  obtain ⟨pc, lc, Kc, rfl⟩ := nc.form
  go_wp2_with fail
  refine ho hKK (S.c3 0 rfl) fun hS => ?_
  clear hKK KK
  refine tk 6 hS ?_
  refine rd 7 fun KK hKK => ?_
  obtain ⟨c0, c1, c2⟩ := S.c3 1 rfl; obtain ⟨f0, f1, f2⟩ := S.f3 1 rfl
  go_simp; clear hS c0 f0 c1 f1 c2 f2
  have HP := S.putq 1 (.bool (negB (x.num.natAbs : Int))) (.slice pa la Ka) (.slice pc lc Kc) rfl rfl; have H := HP.2; replace S := HP.1; clear HP
  refine iv4 H n1 d1 na nc ?_; clear n1 d1 na nc; intro n1 d1 na nc; replace HH := HH.trans H; clear H
  refine ho hKK (S.c3 0 rfl) fun hS => ?_
  generalize (((w4.setCell ⟨w.heap.size + 1, 0, none⟩ (.bool (negB (x.num.natAbs : Int)))).setCell ⟨w.heap.size + 1, 1, none⟩ (.slice pa la Ka)).setCell ⟨w.heap.size + 1, 2, none⟩ (.slice pc lc Kc)) = w5 at S n1 d1 na nc HH hS ⊢
  clear hKK KK
  refine wpAnyH_done (by kernel_rfl) ?_ _
  clear hS HH; obtain ⟨c0_0, c0_1, c0_2⟩ := S.c3 0 rfl; obtain ⟨c1_0, c1_1, c1_2⟩ := S.c3 1 rfl; go_wp2_with fail; obtain ⟨d1_0, d1_1, d1_2⟩ := S.c3 1 rfl
  exact bodyPost_ret (v := .agg #[.bool (negB (x.num.natAbs : Int)), .slice pa la Ka, .slice pc lc Kc]) (by simp [results, Tryz.f22, go_sem, d1_0, d1_1, d1_2]) rfl (⟨⟨_, rfl, _, pa, la, Ka, pc, lc, Kc, rfl, by rw [HQ.out.1]; rfl, by rw [HQ.out.1]; exact na, by rw [HQ.out.2]; exact nc⟩, S.below⟩)
def cmpR (x y : Rat) : Int := cmpI (x.num * y.den) (y.num * x.den)
set_option maxRecDepth 100000 in
set_option maxHeartbeats 4000000 in
theorem rcompare_any {va vb : Value} {x y : Rat} {w : World} (ha : IsRat w va x) (hb : IsRat w vb y) {k1 k2 : Nat} (hx : RB x k1) (hy : RB y k2) (hk : k1 + k2 ≤ 511) (c : Int) (hc : cmpR x y = c) :
    Calls Tryz.prog 21 #[va, vb] w fun e w' => e = .returned (.tuple #[.int .i64 c, .int .i64 0]) ∧ Below w.heap.size w w' := by
  obtain ⟨b1, p1, l1, K1, q1, j1, J1, rfl, hb1, n1, d1⟩ := ha
  obtain ⟨b2, p2, l2, K2, q2, j2, J2, rfl, hb2, n2, d2⟩ := hb
  obtain ⟨X, hX⟩ : ∃ X, x.num * y.den = X := ⟨_, rfl⟩
  obtain ⟨Y, hY⟩ : ∃ Y, y.num * x.den = Y := ⟨_, rfl⟩
  have hb := rbz hx hy
  rw [hX, hY] at hb
  unfold cmpR at hc
  rw [hX, hY] at hc
  have HX := Lib.hid (And.intro (rb_max hx (by omega)) (rb_max hy (by omega)))
  have HD := Lib.hid (And.intro hX (And.intro hY hc))
  have HB := Lib.hid (And.intro (nb_max hb.1 (by omega)) (nb_max hb.2.1 (by omega)))
  clear hX hY hb hc hx hy hk
  have S := ((St.start w).alloc 39 [.bool b1, .slice p1 l1 K1, .slice q1 j1 J1] (w.heap.size)).alloc 39 [.bool b2, .slice p2 l2 K2, .slice q2 j2 J2] (w.heap.size + 1)
  try simp only [List.cons_append, List.nil_append] at S
  refine iv4 S.hold n1 d1 n2 d2 ?_; clear n1 d1 n2 d2; intro n1 d1 n2 d2
  obtain ⟨c0_0, c0_1, c0_2⟩ := S.c3 0 rfl; obtain ⟨c1_0, c1_1, c1_2⟩ := S.c3 1 rfl
  go_enter Tryz.func21, Tryz.ntmps21
  go_wp2_with fail; clear c0_0 c0_1 c0_2 c1_0 c1_1 c1_2
  refine (S.call (cross_any ⟨b1, p1, l1, K1, q1, j1, J1, rfl, hb1, n1, d1⟩ ⟨b2, p2, l2, K2, q2, j2, J2, rfl, hb2, n2, d2⟩ HX.out.1.1 HX.out.1.2 HX.out.2.1 HX.out.2.2 X Y HD.out.1 HD.out.2.1 HB.out.1 HB.out.2)).mono ?_
  clear S
  rintro e w1 ⟨⟨_, _, rfl, ⟨px, lx, Kx, rfl, nx⟩, ⟨py, ly, Ky, rfl, ny⟩⟩, S, H⟩
  refine iv4 H n1 d1 n2 d2 ?_; clear n1 d1 n2 d2; intro n1 d1 n2 d2
  clear H; obtain ⟨c0_0, c0_1, c0_2⟩ := S.c3 0 rfl; obtain ⟨c1_0, c1_1, c1_2⟩ := S.c3 1 rfl
  have H := S.hnew 37 [.bool (negB X), .slice px lx Kx]
  replace S := S.al 37 [.bool (negB X), .slice px lx Kx] (w1.heap.size)
  refine iv6 H n1 d1 n2 d2 nx ny ?_; clear n1 d1 n2 d2 nx ny; intro n1 d1 n2 d2 nx ny
  clear H
  have H := S.hnew 37 [.bool (negB Y), .slice py ly Ky]
  replace S := S.al 37 [.bool (negB Y), .slice py ly Ky] (w1.heap.size + 1)
  refine iv6 H n1 d1 n2 d2 nx ny ?_; clear n1 d1 n2 d2 nx ny; intro n1 d1 n2 d2 nx ny
  clear H; clear c0_0 c0_1 c0_2 c1_0 c1_1 c1_2; obtain ⟨c0_0, c0_1, c0_2⟩ := S.c3 0 rfl; obtain ⟨c1_0, c1_1, c1_2⟩ := S.c3 1 rfl; have c2_0 := S.c 2 0 rfl rfl; have c2_1 := S.c 2 1 rfl rfl; have c3_0 := S.c 3 0 rfl rfl; have c3_1 := S.c 3 1 rfl rfl; go_wp2_with fail; clear c0_0 c0_1 c0_2 c1_0 c1_1 c1_2 c2_0 c2_1 c3_0 c3_1
  refine (S.call (wcompare_to ⟨_, _, _, rfl, nx⟩ ⟨_, _, _, rfl, ny⟩ HB.out.1 HB.out.2 c HD.out.2.2)).mono ?_
  clear S
  rintro e w2 ⟨rfl, S, H⟩
  refine iv6 H n1 d1 n2 d2 nx ny ?_; clear n1 d1 n2 d2 nx ny; intro n1 d1 n2 d2 nx ny
  clear H; obtain ⟨c0_0, c0_1, c0_2⟩ := S.c3 0 rfl; obtain ⟨c1_0, c1_1, c1_2⟩ := S.c3 1 rfl; have c2_0 := S.c 2 0 rfl rfl; have c2_1 := S.c 2 1 rfl rfl; have c3_0 := S.c 3 0 rfl rfl; have c3_1 := S.c 3 1 rfl rfl; go_wp2_with fail
  exact bodyPost_ret (v := .tuple #[.int .i64 c, .int .i64 0]) (by simp [results, Tryz.f21, go_sem]) rfl (⟨rfl, S.below⟩)
set_option maxRecDepth 100000 in
set_option maxHeartbeats 4000000 in
theorem rof_any (n d : Int) (w : World) (hn0 : -9223372036854775808 ≤ n) (hn1 : n ≤ 9223372036854775807) (hd0 : -9223372036854775808 ≤ d) (hd1 : d ≤ 9223372036854775807) (h0 : d ≠ 0) (q : Rat) (hq : q = Rat.divInt n d) :
    Calls Tryz.prog 23 #[.int .i64 n, .int .i64 d] w fun e w' => (∃ u, e = .returned u ∧ IsRat w' u q) ∧ Below w.heap.size w w' := by
  have HD := Lib.hid (And.intro hn0 (And.intro hn1 (And.intro hd0 (And.intro hd1 (And.intro h0 hq)))))
  have HB := Lib.hid (And.intro (show n.natAbs < maxN from lt_maxN (by omega)) (show d.natAbs < maxN from lt_maxN (by omega)))
  clear hn0 hn1 hd0 hd1 h0 hq
  have S := (St.start w).alloc 39 [.bool false, .slice none 0 0, .slice none 0 0] (w.heap.size)
  try simp only [List.nil_append] at S
  obtain ⟨c0_0, c0_1, c0_2⟩ := S.c3 0 rfl
  go_enter Tryz.func23, Tryz.ntmps23
  go_wp2_with fail; clear c0_0 c0_1 c0_2
  refine (S.call (wof_any n _ HD.out.1 HD.out.2.1)).mono ?_
  clear S
  rintro e w1 ⟨⟨_, rfl, pn, ln, Kn, rfl, nn⟩, S, H⟩
  clear H; obtain ⟨c0_0, c0_1, c0_2⟩ := S.c3 0 rfl; go_wp2_with fail; clear c0_0 c0_1 c0_2
  refine (S.call (wof_any d _ HD.out.2.2.1 HD.out.2.2.2.1)).mono ?_
  clear S
  rintro e w2 ⟨⟨_, rfl, pd, ld, Kd, rfl, nd⟩, S, H⟩
  replace nn := nn.hold H; clear H; obtain ⟨c0_0, c0_1, c0_2⟩ := S.c3 0 rfl; go_wp2_with fail; clear c0_0 c0_1 c0_2
  refine (S.call (rmake_any ⟨_, _, _, rfl, nn⟩ ⟨_, _, _, rfl, nd⟩ HB.out.1 HB.out.2 HD.out.2.2.2.2.1 q HD.out.2.2.2.2.2)).mono ?_
  clear S
  rintro e w3 ⟨⟨_, rfl, b, p, l, K, q', j, J, rfl, hb, n1, d1⟩, S, H⟩
  replace nn := nn.hold H; replace nd := nd.hold H
  clear H; obtain ⟨c0_0, c0_1, c0_2⟩ := S.c3 0 rfl
  have H := S.hnew 39 [.bool b, .slice p l K, .slice q' j J]
  replace S := S.al 39 [.bool b, .slice p l K, .slice q' j J] (w3.heap.size)
  refine iv4 H nn nd n1 d1 ?_; clear nn nd n1 d1; intro nn nd n1 d1
  clear H; clear c0_0 c0_1 c0_2; obtain ⟨c0_0, c0_1, c0_2⟩ := S.c3 0 rfl; obtain ⟨c1_0, c1_1, c1_2⟩ := S.c3 1 rfl
  obtain ⟨f0_0, f0_1, f0_2⟩ := S.f3 0 rfl
  have HP := S.putq 0 (.bool b) (.slice p l K) (.slice q' j J) rfl rfl; have H := HP.2; replace S := HP.1; clear HP
  refine iv4 H nn nd n1 d1 ?_; clear nn nd n1 d1; intro nn nd n1 d1
  clear H; go_wp2_with fail; obtain ⟨d0_0, d0_1, d0_2⟩ := S.c3 0 rfl
  exact bodyPost_ret (v := .agg #[.bool b, .slice p l K, .slice q' j J]) (by simp [results, Tryz.f23, go_sem, d0_0, d0_1, d0_2]) rfl (⟨⟨_, rfl, b, p, l, K, q', j, J, rfl, hb, n1, d1⟩, S.below⟩)
set_option maxRecDepth 100000 in
theorem check_big (p : Option Addr) (K l : Nat) (w : World) (h : 512 < l) :
    Calls Tryz.prog 18 #[.slice p l K] w fun e w' => e = .returned (.int .i64 11) ∧ Below w.heap.size w w' := by
  have h' : (512 : Int) < (l : Int) := by omega
  have S := St.start w
  try simp only [List.cons_append, List.nil_append] at S
  go_enter Tryz.func18, Tryz.ntmps18
  go_wp2_with fail
  exact bodyPost_ret (v := .int .i64 11) (by simp [results, Tryz.f18, go_sem]) rfl (⟨rfl, S.below⟩)
theorem check_all (p : Option Addr) (K l : Nat) (es : List Nat) (w : World) (hat : At .u32 w p K es) (hl : es.length = l) (c : Int) (hc : ((checkOf es : Nat) : Int) = c) :
    Calls Tryz.prog 18 #[.slice p l K] w fun e w' => e = .returned (.int .i64 c) ∧ Below w.heap.size w w' := by
  by_cases h : 512 < l
  · have e : checkOf es = 11 := by unfold checkOf; rw [if_pos (by omega)]
    subst hc
    rw [e]
    exact check_big p K l w h
  · exact check_rawN p K l es w hat hl (by omega) c hc
set_option maxRecDepth 100000 in
theorem wcheck_big (b : Bool) (p : Option Addr) (K l : Nat) (w : World) (h : 512 < l) :
    Calls Tryz.prog 17 #[.agg #[.bool b, .slice p l K]] w fun e w' => e = .returned (.int .i64 11) ∧ Below w.heap.size w w' := by
  have HL := Lib.hid h
  clear h
  have S := (St.start w).alloc 37 [.bool b, .slice p l K] (w.heap.size)
  try simp only [List.nil_append] at S
  have c0_0 := S.c 0 0 rfl rfl; have c0_1 := S.c 0 1 rfl rfl
  go_enter Tryz.func17, Tryz.ntmps17
  go_wp2_with fail; clear c0_0 c0_1
  refine (S.call (check_big p K l _ HL.out)).mono ?_
  clear S
  rintro e w1 ⟨rfl, S, H⟩
  clear H; have c0_0 := S.c 0 0 rfl rfl; have c0_1 := S.c 0 1 rfl rfl; go_wp2_with fail
  exact bodyPost_ret (v := .int .i64 11) (by simp [results, Tryz.f17, go_sem]) rfl (⟨rfl, S.below⟩)
theorem wcheck_all (b : Bool) (p : Option Addr) (K l : Nat) (ds : List Nat) (w : World) (hat : At .u32 w p K ds) (hd : Dig 4294967296 ds) (hl : ds.length = l) :
    Calls Tryz.prog 17 #[.agg #[.bool b, .slice p l K]] w fun e w' => (∃ c : Int, e = .returned (.int .i64 c) ∧ Hid (c = 0 → l ≤ 512 ∧ cut ds = ds ∧ (b = true → ds ≠ []))) ∧ Below w.heap.size w w' := by
  by_cases h : 512 < l
  · exact (wcheck_big b p K l w h).mono fun e w' h => ⟨⟨11, h.1, fun h => by cases h⟩, h.2⟩
  · exact (wcheck_raw b p K l ds w hat hd hl (by omega)).mono fun e w' ⟨⟨c, h1, h2⟩, h3⟩ => ⟨⟨c, h1, fun h0 => ⟨by omega, h2.out h0⟩⟩, h3⟩
set_option maxRecDepth 100000 in
set_option maxHeartbeats 4000000 in
theorem rcheck_big (b : Bool) (p p' : Option Addr) (K K' l l' : Nat) (ds es : List Nat) (w : World) (at1 : At .u32 w p K ds) (at2 : At .u32 w p' K' es) (d1 : Dig 4294967296 ds) (hl : ds.length = l) (hl' : es.length = l') (h5 : 512 < l ∨ 512 < l') :
    Calls Tryz.prog 7 #[.agg #[.bool b, .slice p l K, .slice p' l' K']] w fun e w' => (∃ c : Int, e = .returned (.int .i64 c) ∧ Hid (c ≠ 0)) ∧ Below w.heap.size w w' := by
  obtain ⟨c2, hc2⟩ : ∃ c2 : Int, ((checkOf es : Nat) : Int) = c2 := ⟨_, rfl⟩
  have h2 : 512 < l' → c2 ≠ 0 := fun h e => by
    have e2 : checkOf es = 11 := by unfold checkOf; rw [if_pos (by omega)]
    omega
  have HD := Lib.hid (And.intro d1 (And.intro hl (And.intro hl' (And.intro h5 (And.intro hc2 h2)))))
  clear d1 hl hl' h5 hc2 h2
  have S := (St.start w).alloc 39 [.bool b, .slice p l K, .slice p' l' K'] (w.heap.size)
  try simp only [List.nil_append] at S
  replace at1 := at1.hold S.hold
  replace at2 := at2.hold S.hold
  obtain ⟨c0_0, c0_1, c0_2⟩ := S.c3 0 rfl
  go_enter Tryz.func7, Tryz.ntmps7
  go_upto_region 1 with fail
  clear c0_0 c0_1 c0_2
  generalize (w.alloc (.cells #[.bool b, .slice p l K, .slice p' l' K'] 39)) = w1 at S at1 at2 ⊢
  have HH := Hold.drew w1
  replace at1 := at1.hold HH; replace at2 := at2.hold HH
  replace S := S.drew
  refine wp_region_held_drew (S := fun W => W.cell? ⟨w.heap.size, 0, none⟩ = some (.bool b) ∧ W.cell? ⟨w.heap.size, 1, none⟩ = some (.slice p l K) ∧ W.cell? ⟨w.heap.size, 2, none⟩ = some (.slice p' l' K')) (by kernel_rfl) (S.c3 0 rfl) (fun hS => ?_)
  generalize w1.drew = w2 at S at1 at2 HH hS ⊢
  refine wpAnyH_take (i := 0) (v := ?_) (opOf rfl) (by kernel_rfl) (by kernel_rfl) (by kernel_rfl) (fun _ _ _ h => h) (Or.inl ⟨rfl, fun W hW => ?_⟩) hS ?_
  rotate_left
  · obtain ⟨hW0, hW1, hW2⟩ := hW; go_simp; try first | rfl | (rw [if_neg (by first | omega | (simp only [ByteArray.size_append]; first | omega | (have h1 : (ByteArray.mk #[47]).size = 1 := rfl; omega)))]; try rfl) | kernel_rfl
  try simp only [Act.put, List.setIfInBounds_toArray, List.set_cons_zero, List.set_cons_succ]
  refine wpAnyH_take (i := 1) (v := ?_) (opOf rfl) (by kernel_rfl) (by kernel_rfl) (by kernel_rfl) (fun _ _ _ h => h) (Or.inl ⟨rfl, fun W hW => ?_⟩) hS ?_
  rotate_left
  · obtain ⟨hW0, hW1, hW2⟩ := hW; go_simp; try first | rfl | (rw [if_neg (by first | omega | (simp only [ByteArray.size_append]; first | omega | (have h1 : (ByteArray.mk #[47]).size = 1 := rfl; omega)))]; try rfl) | kernel_rfl
  try simp only [Act.put, List.setIfInBounds_toArray, List.set_cons_zero, List.set_cons_succ]
  refine wpAnyH_take (i := 3) (v := ?_) (opOf rfl) (by kernel_rfl) (by kernel_rfl) (by kernel_rfl) (fun _ _ _ h => h) (Or.inl ⟨rfl, fun W hW => ?_⟩) hS ?_
  rotate_left
  · obtain ⟨hW0, hW1, hW2⟩ := hW; go_simp; try first | rfl | (rw [if_neg (by first | omega | (simp only [ByteArray.size_append]; first | omega | (have h1 : (ByteArray.mk #[47]).size = 1 := rfl; omega)))]; try rfl) | kernel_rfl
  try simp only [Act.put, List.setIfInBounds_toArray, List.set_cons_zero, List.set_cons_succ]
  refine wpAnyH_take (i := 4) (v := ?_) (opOf rfl) (by kernel_rfl) (by kernel_rfl) (by kernel_rfl) (fun _ _ _ h => h) (Or.inl ⟨rfl, fun W hW => ?_⟩) hS ?_
  rotate_left
  · obtain ⟨hW0, hW1, hW2⟩ := hW; go_simp; try first | rfl | (rw [if_neg (by first | omega | (simp only [ByteArray.size_append]; first | omega | (have h1 : (ByteArray.mk #[47]).size = 1 := rfl; omega)))]; try rfl) | kernel_rfl
  try simp only [Act.put, List.setIfInBounds_toArray, List.set_cons_zero, List.set_cons_succ]
  refine wpAnyH_ready (rs := [2]) (by kernel_rfl) (by simp) (AllReadyH.cons (opOf rfl) (fun KK hKK => ?_) AllReadyH.nil)
  go_simp; clear hS
  refine (S.call (wcheck_all b p K l ds _ at1 HD.out.1 HD.out.2.1)).mono ?_
  clear S
  rintro e w3 ⟨⟨c1, rfl, h1⟩, S, H⟩
  replace at1 := at1.hold H; replace at2 := at2.hold H; replace HH := HH.trans H; clear H; go_wp2_with fail
  refine ho hKK (S.c3 0 rfl) fun hS => ?_
  clear hKK KK
  refine wpAnyH_ready (rs := [5]) (by kernel_rfl) (by simp) (AllReadyH.cons (opOf rfl) (fun KK hKK => ?_) AllReadyH.nil)
  go_simp; clear hS
  refine (S.call (check_all p' K' l' es _ at2 HD.out.2.2.1 c2 HD.out.2.2.2.2.1)).mono ?_
  clear S
  rintro e w4 ⟨rfl, S, H⟩
  replace at1 := at1.hold H; replace at2 := at2.hold H; replace HH := HH.trans H; clear H; go_wp2_with fail
  refine ho hKK (S.c3 0 rfl) fun hS => ?_
  clear hKK KK
  refine wpAnyH_ready (rs := [6]) (by kernel_rfl) (by simp) (AllReadyH.cons (opOf rfl) (fun KK hKK => ?_) AllReadyH.nil)
  go_simp; clear hS
  have H := S.hnew 27 [.int .i64 c1, .int .i64 c2]
  replace S := S.al 27 [.int .i64 c1, .int .i64 c2] (w4.heap.size)
  replace at1 := at1.hold H; replace at2 := at2.hold H; replace HH := HH.trans H; clear H
  refine ho hKK (S.c3 0 rfl) fun hS => ?_
  generalize (w4.alloc (.cells #[.int .i64 c1, .int .i64 c2] 27)) = w5 at S at1 at2 HH hS ⊢
  clear hKK KK
  refine wpAnyH_ready (rs := [7]) (by kernel_rfl) (by simp) (AllReadyH.cons (opOf rfl) (fun KK hKK => ?_) AllReadyH.nil)
  go_simp; clear hS
  refine (S.call (or_pair S 1 rfl)).mono ?_
  clear S
  rintro e w6 ⟨⟨r, rfl, hr⟩, S, H⟩
  replace at1 := at1.hold H; replace at2 := at2.hold H; replace HH := HH.trans H; clear H; go_wp2_with fail
  refine ho hKK (S.c3 0 rfl) fun hS => ?_
  clear hKK KK
  refine wpAnyH_ready (rs := [8]) (by kernel_rfl) (by simp) (AllReadyH.cons (opOf rfl) (fun KK hKK => ?_) AllReadyH.nil)
  go_simp
  refine ho hKK hS fun hS => ?_
  clear hKK KK
  refine wpAnyH_done (by kernel_rfl) ?_ _
  clear hS HH
  have h0 : r ≠ 0 := fun e => by
    obtain ⟨e1, e2⟩ := hr.out e
    rcases HD.out.2.2.2.1 with h | h
    · have := (h1.out e1).1; omega
    · exact HD.out.2.2.2.2.2 h e2
  have h0' : (r != 0) = true := by simpa using h0
  have H0 := Lib.hid h0
  clear h0 hr h1; obtain ⟨c0_0, c0_1, c0_2⟩ := S.c3 0 rfl; go_wp2_with fail
  exact bodyPost_ret (v := .int .i64 r) (by simp [results, Tryz.f7, go_sem]) rfl (⟨⟨r, rfl, H0⟩, S.below⟩)
theorem rcheck_all (b : Bool) (p p' : Option Addr) (K K' l l' : Nat) (ds es : List Nat) (w : World) (at1 : At .u32 w p K ds) (at2 : At .u32 w p' K' es) (d1 : Dig 4294967296 ds) (d2 : Dig 4294967296 es) (hl : ds.length = l) (hl' : es.length = l') :
    Calls Tryz.prog 7 #[.agg #[.bool b, .slice p l K, .slice p' l' K']] w fun e w' => (∃ c : Int, e = .returned (.int .i64 c) ∧ Hid (c = 0 → ValidR b ds es)) ∧ Below w.heap.size w w' := by
  by_cases h : 512 < l ∨ 512 < l'
  · exact (rcheck_big b p p' K K' l l' ds es w at1 at2 d1 hl hl' h).mono fun e w' ⟨⟨c, h1, h2⟩, h3⟩ => ⟨⟨c, h1, fun h0 => absurd h0 h2.out⟩, h3⟩
  · exact rcheck_raw b p p' K K' l l' ds es w at1 at2 d1 d2 hl hl' (by omega) (by omega)
set_option maxRecDepth 100000 in
set_option maxHeartbeats 4000000 in
theorem vcheck_raw {p : Option Addr} {l c : Nat} {xs : List RawQ} {w : World} (h : Raws w (.slice p l c) xs) (n : Nat) (h16 : n ≤ 16) :
    Calls Tryz.prog 6 #[.slice p l c, .int .i64 n] w fun e w' => (∃ r : Int, e = .returned (.int .i64 r) ∧ Hid (r = 0 → l = n ∧ ∀ (j : Nat) x, xs[j]? = some x → ValidR x.b x.ds x.es)) ∧ Below w.heap.size w w' := by
  have hl : xs.length = l := by
    obtain ⟨_, _, e, _⟩ := h
    cases e; rfl
  have HI := Lib.hid (And.intro h hl)
  have g1 : ¬ ((n : Nat) : Int) < 0 := by omega
  have g2 : ¬ (16 : Int) < ((n : Nat) : Int) := by omega
  clear h hl
  by_cases hln : l = n
  rotate_left
  · have e1 : (((l : Nat) : Int) != ((n : Nat) : Int)) = true := by simp; omega
    have e2 : (((l : Nat) : Int) == ((n : Nat) : Int)) = false := by simp; omega
    have HN := Lib.hid hln
    clear hln
    have S := St.start w
    go_enter Tryz.func6, Tryz.ntmps6
    go_wp2_with fail
    exact bodyPost_ret (v := .int .i64 20) (by simp [results, Tryz.f6, go_sem]) rfl (⟨⟨20, rfl, fun h => by cases h⟩, S.below⟩)
  subst hln
  have e1 : (((l : Nat) : Int) != ((l : Nat) : Int)) = false := by simp
  have e2 : (((l : Nat) : Int) == ((l : Nat) : Int)) = true := by simp
  have S := St.start w
  go_enter Tryz.func6, Tryz.ntmps6
  go_wp2_with fail; clear e1 e2 g1 g2
  go_loopw [22] (fun si wr => ∃ k : Nat, k ≤ l ∧ si = .int .i64 k ∧ Hid (∀ (j : Nat) x, j < k → xs[j]? = some x → ValidR x.b x.ds x.es) ∧ St w wr []) (fun si _ => l - (intOf si).toNat)
  case atStart => exact ⟨0, by omega, rfl, fun j x h => by omega, S⟩
  case round =>
    clear S
    obtain ⟨k, hk, rfl, hz, S⟩ := hrel
    by_cases hlt : k < l
    · obtain ⟨g, off, b1, p1, l1, K1, p2, l2, K2, es1, es2, rfl, hg, a0, a1, a2, hx, hl1, hl2, at1, at2, dd1, dd2⟩ := HI.out.1.get hlt
      replace a0 := (S.below.cell (p := ⟨g, off + k * 3, none⟩) hg).trans a0
      replace a1 := (S.below.cell (p := ⟨g, off + k * 3 + 1, none⟩) hg).trans a1
      replace a2 := (S.below.cell (p := ⟨g, off + k * 3 + 2, none⟩) hg).trans a2
      replace at1 := at1.below S.below (Nat.le_refl _)
      replace at2 := at2.below S.below (Nat.le_refl _)
      have hki : (k : Int) < ((l : Nat) : Int) := by omega
      have hk9 : (k : Int) ≤ 16 := by omega
      have HX := Lib.hid (And.intro hx (And.intro hl1 (And.intro hl2 hlt)))
      clear hx hl1 hl2 hg hlt hk
      have H := S.hnew 39 [.bool b1, .slice p1 l1 K1, .slice p2 l2 K2]
      replace S := S.al 39 [.bool b1, .slice p1 l1 K1, .slice p2 l2 K2] (wr.heap.size)
      replace at1 := at1.hold H; replace at2 := at2.hold H
      clear H; obtain ⟨c0_0, c0_1, c0_2⟩ := S.c3 0 rfl; go_wp2_with fail; clear c0_0 c0_1 c0_2
      refine (S.call (rcheck_all b1 p1 p2 K1 K2 l1 l2 es1 es2 _ at1 at2 dd1 dd2 HX.out.2.1 HX.out.2.2.1)).mono ?_
      clear S
      rintro e w7 ⟨⟨r, rfl, hc⟩, S, H⟩
      clear H at1 at2 dd1 dd2 a0 a1 a2
      by_cases h0 : r = 0
      rotate_left
      · have h0' : (r != 0) = true := by simpa using h0
        have HR := Lib.hid h0
        clear hc h0; go_wp2_with fail
        exact bodyPost_ret (v := .int .i64 r) (by simp [results, Tryz.f6, go_sem]) rfl (⟨⟨r, rfl, fun h => absurd h HR.out⟩, S.below⟩)
      have h0' : (r != 0) = false := by rw [h0]; rfl
      have HV := Lib.hid (hc.out h0)
      clear h0 hc
      replace S := S.take 0 (L := []) rfl
      go_wp2_with fail
      go_roundw
      case rel =>
        refine ⟨k + 1, by have := HX.out.2.2.2; omega, by go_num, fun j x hj hx => ?_, S⟩
        by_cases e : j = k
        · subst e
          rw [HX.out.1] at hx
          cases hx
          exact HV.out
        · exact hz.out j x (by omega) hx
      case measure => have := HX.out.2.2.2; simp [intOf]; omega
    · have hki : ¬ (k : Int) < ((l : Nat) : Int) := by omega
      have HZ : Hid (∀ (j : Nat) x, xs[j]? = some x → ValidR x.b x.ds x.es) := (fun j x hx => hz.out j x (by have := (List.getElem?_eq_some_iff.1 hx).1; have := HI.out.2; omega) hx)
      clear hlt hk hz; go_wp2_with fail
      exact bodyPost_ret (v := .int .i64 0) (by simp [results, Tryz.f6, go_sem]) rfl (by first | exact ⟨⟨0, rfl, fun _ => ⟨rfl, HZ.out⟩⟩, S.below⟩ | exact ⟨⟨0, rfl, fun _ => HZ.out⟩, S.below⟩)
set_option maxRecDepth 100000 in
set_option maxHeartbeats 2000000 in
theorem rmake_zero {va vb : Value} {n : Int} {w : World} (ha : IsInt w va n) (hb : IsInt w vb 0) :
    Calls Tryz.prog 55 #[va, vb] w fun e w' => (∃ u, e = .returned (.tuple #[u, .int .i64 10]) ∧ IsRat w' u 0) ∧ Below w.heap.size w w' := by
  obtain ⟨p1, l1, K1, rfl, n1⟩ := ha
  obtain ⟨p2, l2, K2, rfl, n2⟩ := hb
  obtain ⟨b1, hb1⟩ : ∃ b1, negB n = b1 := ⟨_, rfl⟩
  rw [hb1]
  obtain ⟨z, hz⟩ : ∃ z : Int, z = 0 := ⟨_, rfl⟩
  rw [← hz] at n2 ⊢
  have HZ := Lib.hid hz
  have hz0 : (z.sign) = (0 : Int) := by rw [hz]; rfl
  have HS := Lib.hid hz0
  clear hb1 hz hz0
  have S := (((St.start w).alloc 37 [.bool b1, .slice p1 l1 K1] (w.heap.size)).alloc 37 [.bool (negB z), .slice p2 l2 K2] (w.heap.size + 1)).alloc 39 [.bool false, .slice none 0 0, .slice none 0 0] (w.heap.size + 1 + 1)
  try simp only [List.cons_append, List.nil_append] at S
  replace n1 := n1.hold S.hold; replace n2 := n2.hold S.hold
  have c0_0 := S.c 0 0 rfl rfl; have c0_1 := S.c 0 1 rfl rfl; have c1_0 := S.c 1 0 rfl rfl; have c1_1 := S.c 1 1 rfl rfl; obtain ⟨c2_0, c2_1, c2_2⟩ := S.c3 2 rfl
  go_enter Tryz.func55, Tryz.ntmps55
  go_wp2_with fail; clear c0_0 c0_1 c1_0 c1_1 c2_0 c2_1 c2_2
  refine (S.call (wsign_any ⟨_, _, _, rfl, n2⟩ (by rw [HZ.out]; exact lt_maxN (by decide)) HS.out)).mono ?_
  clear S
  rintro e w1 ⟨rfl, S, H⟩
  replace n1 := n1.hold H; replace n2 := n2.hold H
  clear H; have c0_0 := S.c 0 0 rfl rfl; have c0_1 := S.c 0 1 rfl rfl; have c1_0 := S.c 1 0 rfl rfl; have c1_1 := S.c 1 1 rfl rfl; obtain ⟨c2_0, c2_1, c2_2⟩ := S.c3 2 rfl; go_wp2_with fail; clear c0_0 c0_1 c1_0 c1_1 c2_0 c2_1 c2_2
  refine (S.call (rzero_any _)).mono ?_
  clear S
  rintro e w2 ⟨⟨_, rfl, bz, pz, lz, Kz, qz, jz, Jz, rfl, hbz, nz, dz⟩, S, H⟩
  replace n1 := n1.hold H; replace n2 := n2.hold H
  clear H; have c0_0 := S.c 0 0 rfl rfl; have c0_1 := S.c 0 1 rfl rfl; have c1_0 := S.c 1 0 rfl rfl; have c1_1 := S.c 1 1 rfl rfl; obtain ⟨c2_0, c2_1, c2_2⟩ := S.c3 2 rfl
  obtain ⟨f2_0, f2_1, f2_2⟩ := S.f3 2 rfl
  have HP := S.putq 2 (.bool bz) (.slice pz lz Kz) (.slice qz jz Jz) rfl rfl; have H := HP.2; replace S := HP.1; clear HP
  refine iv4 H n1 n2 nz dz ?_; clear n1 n2 nz dz; intro n1 n2 nz dz
  clear H; go_wp2_with fail; obtain ⟨d2_0, d2_1, d2_2⟩ := S.c3 2 rfl
  exact bodyPost_ret (v := .tuple #[.agg #[.bool bz, .slice pz lz Kz, .slice qz jz Jz], .int .i64 10]) (by simp [results, Tryz.f55, go_sem, d2_0, d2_1, d2_2]) rfl (⟨⟨_, rfl, bz, pz, lz, Kz, qz, jz, Jz, rfl, hbz, nz, dz⟩, S.below⟩)
theorem den_one {x : Rat} (h : x.den = 1) : x = (x.num : Rat) := Rat.ext rfl h
theorem equal_nat3 {va vb : Value} {m n : Nat} {w : World} (ha : IsNat w va m) (hb : IsNat w vb n) (hm : m < maxN) {b : Bool} (h : decide (m = n) = b) :
    Calls Tryz.prog 74 #[va, vb] w fun e w' => e = .returned (.bool b) ∧ Below w.heap.size w w' := by
  obtain ⟨ds, ⟨p1, K1, rfl, at1⟩, c1, v1⟩ := ha
  obtain ⟨es, ⟨p2, K2, rfl, at2⟩, c2, v2⟩ := hb
  have hl : ds.length ≤ 512 := c1.len_max.2 (by omega)
  have h1 := equal_nat p1 p2 K1 K2 ds es w at1 at2 (by omega)
  have e : decide (ds = es) = b := by
    rw [← h, Bool.eq_iff_iff, decide_eq_true_iff, decide_eq_true_iff]
    exact ⟨fun e => by rw [← v1, ← v2, e], fun e => Can.uniq (by decide) c1 c2 (by rw [v1, v2, e])⟩
  rw [e] at h1
  exact h1
theorem rat_same {x y : Rat} (h1 : negB x.num = negB y.num) (h2 : x.num.natAbs = y.num.natAbs) (h3 : x.den = y.den) : x = y := by
  apply Rat.ext
  · have : (x.num < 0) ↔ (y.num < 0) := by simpa [negB] using h1
    omega
  · exact h3
set_option maxRecDepth 100000 in
set_option maxHeartbeats 4000000 in
theorem rsame_any {va vb : Value} {x y : Rat} {w : World} (ha : IsRat w va x) (hb : IsRat w vb y) (hx : x.num.natAbs < maxN ∧ x.den < maxN) {r : Bool} (hr : decide (x = y) = r) :
    Calls Tryz.prog 37 #[va, vb] w fun e w' => e = .returned (.bool r) ∧ Below w.heap.size w w' := by
  obtain ⟨b1, p1, l1, K1, q1, j1, J1, rfl, h1, n1, d1⟩ := ha
  obtain ⟨b2, p2, l2, K2, q2, j2, J2, rfl, h2, n2, d2⟩ := hb
  have HX := Lib.hid hx
  clear hx
  by_cases hbb : b2 = b1
  · subst hbb
    by_cases hn : x.num.natAbs = y.num.natAbs
    · have hn' := Lib.hid (decide_eq_true hn)
      by_cases hd : x.den = y.den
      · have hr' : r = true := by rw [← hr]; exact decide_eq_true (rat_same (h1.out.trans h2.out.symm) hn hd)
        have hd' := Lib.hid (decide_eq_true hd)
        clear hr hn hd
        subst hr'
        have S := ((St.start w).alloc 39 [.bool b2, .slice p1 l1 K1, .slice q1 j1 J1] (w.heap.size)).alloc 39 [.bool b2, .slice p2 l2 K2, .slice q2 j2 J2] (w.heap.size + 1)
        try simp only [List.cons_append, List.nil_append] at S
        refine iv4 S.hold n1 d1 n2 d2 ?_; clear n1 d1 n2 d2; intro n1 d1 n2 d2
        obtain ⟨c0_0, c0_1, c0_2⟩ := S.c3 0 rfl; obtain ⟨c1_0, c1_1, c1_2⟩ := S.c3 1 rfl
        go_enter Tryz.func37, Tryz.ntmps37
        go_wp2_with fail; clear c0_0 c0_1 c0_2 c1_0 c1_1 c1_2
        refine (S.call (equal_nat3 n1 n2 HX.out.1 hn'.out)).mono ?_
        clear S
        rintro e w1 ⟨rfl, S, H⟩
        refine iv4 H n1 d1 n2 d2 ?_; clear n1 d1 n2 d2; intro n1 d1 n2 d2
        clear H; obtain ⟨c0_0, c0_1, c0_2⟩ := S.c3 0 rfl; obtain ⟨c1_0, c1_1, c1_2⟩ := S.c3 1 rfl; go_wp2_with fail; clear c0_0 c0_1 c0_2 c1_0 c1_1 c1_2
        refine (S.call (equal_nat3 d1 d2 HX.out.2 hd'.out)).mono ?_
        clear S
        rintro e w2 ⟨rfl, S, H⟩
        refine iv4 H n1 d1 n2 d2 ?_; clear n1 d1 n2 d2; intro n1 d1 n2 d2
        clear H; obtain ⟨c0_0, c0_1, c0_2⟩ := S.c3 0 rfl; obtain ⟨c1_0, c1_1, c1_2⟩ := S.c3 1 rfl; go_wp2_with fail
        exact bodyPost_ret (v := .bool true) (by simp [results, Tryz.f37, go_sem]) rfl (⟨rfl, S.below⟩)
      · have hr' : r = false := by rw [← hr]; exact decide_eq_false (fun e => hd (by rw [e]))
        have hd' := Lib.hid (decide_eq_false hd)
        clear hr hn hd
        subst hr'
        have S := ((St.start w).alloc 39 [.bool b2, .slice p1 l1 K1, .slice q1 j1 J1] (w.heap.size)).alloc 39 [.bool b2, .slice p2 l2 K2, .slice q2 j2 J2] (w.heap.size + 1)
        try simp only [List.cons_append, List.nil_append] at S
        refine iv4 S.hold n1 d1 n2 d2 ?_; clear n1 d1 n2 d2; intro n1 d1 n2 d2
        obtain ⟨c0_0, c0_1, c0_2⟩ := S.c3 0 rfl; obtain ⟨c1_0, c1_1, c1_2⟩ := S.c3 1 rfl
        go_enter Tryz.func37, Tryz.ntmps37
        go_wp2_with fail; clear c0_0 c0_1 c0_2 c1_0 c1_1 c1_2
        refine (S.call (equal_nat3 n1 n2 HX.out.1 hn'.out)).mono ?_
        clear S
        rintro e w1 ⟨rfl, S, H⟩
        refine iv4 H n1 d1 n2 d2 ?_; clear n1 d1 n2 d2; intro n1 d1 n2 d2
        clear H; obtain ⟨c0_0, c0_1, c0_2⟩ := S.c3 0 rfl; obtain ⟨c1_0, c1_1, c1_2⟩ := S.c3 1 rfl; go_wp2_with fail; clear c0_0 c0_1 c0_2 c1_0 c1_1 c1_2
        refine (S.call (equal_nat3 d1 d2 HX.out.2 hd'.out)).mono ?_
        clear S
        rintro e w2 ⟨rfl, S, H⟩
        refine iv4 H n1 d1 n2 d2 ?_; clear n1 d1 n2 d2; intro n1 d1 n2 d2
        clear H; obtain ⟨c0_0, c0_1, c0_2⟩ := S.c3 0 rfl; obtain ⟨c1_0, c1_1, c1_2⟩ := S.c3 1 rfl; go_wp2_with fail
        exact bodyPost_ret (v := .bool false) (by simp [results, Tryz.f37, go_sem]) rfl (⟨rfl, S.below⟩)
    · have hr' : r = false := by rw [← hr]; exact decide_eq_false (fun e => hn (by rw [e]))
      have hn' := Lib.hid (decide_eq_false hn)
      clear hr hn
      subst hr'
      have S := ((St.start w).alloc 39 [.bool b2, .slice p1 l1 K1, .slice q1 j1 J1] (w.heap.size)).alloc 39 [.bool b2, .slice p2 l2 K2, .slice q2 j2 J2] (w.heap.size + 1)
      try simp only [List.cons_append, List.nil_append] at S
      refine iv4 S.hold n1 d1 n2 d2 ?_; clear n1 d1 n2 d2; intro n1 d1 n2 d2
      obtain ⟨c0_0, c0_1, c0_2⟩ := S.c3 0 rfl; obtain ⟨c1_0, c1_1, c1_2⟩ := S.c3 1 rfl
      go_enter Tryz.func37, Tryz.ntmps37
      go_wp2_with fail; clear c0_0 c0_1 c0_2 c1_0 c1_1 c1_2
      refine (S.call (equal_nat3 n1 n2 HX.out.1 hn'.out)).mono ?_
      clear S
      rintro e w1 ⟨rfl, S, H⟩
      refine iv4 H n1 d1 n2 d2 ?_; clear n1 d1 n2 d2; intro n1 d1 n2 d2
      clear H; obtain ⟨c0_0, c0_1, c0_2⟩ := S.c3 0 rfl; obtain ⟨c1_0, c1_1, c1_2⟩ := S.c3 1 rfl; go_wp2_with fail
      exact bodyPost_ret (v := .bool false) (by simp [results, Tryz.f37, go_sem]) rfl (⟨rfl, S.below⟩)
  · have hr' : r = false := by rw [← hr]; exact decide_eq_false (fun e => hbb (by rw [← h1.out, ← h2.out, e]))
    have hb' : b2 = !b1 := by cases b1 <;> cases b2 <;> simp_all
    clear hr hbb
    subst hr'
    subst hb'
    have S := ((St.start w).alloc 39 [.bool b1, .slice p1 l1 K1, .slice q1 j1 J1] (w.heap.size)).alloc 39 [.bool (!b1), .slice p2 l2 K2, .slice q2 j2 J2] (w.heap.size + 1)
    try simp only [List.cons_append, List.nil_append] at S
    refine iv4 S.hold n1 d1 n2 d2 ?_; clear n1 d1 n2 d2; intro n1 d1 n2 d2
    obtain ⟨c0_0, c0_1, c0_2⟩ := S.c3 0 rfl; obtain ⟨c1_0, c1_1, c1_2⟩ := S.c3 1 rfl
    go_enter Tryz.func37, Tryz.ntmps37
    go_wp2_with fail
    exact bodyPost_ret (v := .bool false) (by simp [results, Tryz.f37, go_sem]) rfl (⟨rfl, S.below⟩)
theorem take_snoc {xs : List Rat} {k : Nat} {x : Rat} (h : xs[k]? = some x) : xs.take (k + 1) = xs.take k ++ [x] := by
  rw [List.take_add_one, h]
  rfl
set_option maxRecDepth 100000 in
set_option maxHeartbeats 4000000 in
theorem veqf_any {va vb : Value} {xs ys : List Rat} {w : World} (ha : Rats w va xs) (hb : Rats w vb ys) (n : Nat) (hla : xs.length = n) (hlb : ys.length = n) (hn : n ≤ 1000000) (hx : ∀ q, q ∈ xs → q.num.natAbs < maxN ∧ q.den < maxN) {r : Bool} (hr : decide (xs = ys) = r) :
    Calls Tryz.prog 36 #[va, vb, .func (.func 37) #[] #[]] w fun e w' => e = .returned (.bool r) ∧ Below w.heap.size w w' := by
  obtain ⟨pa, ca, rfl⟩ := ha.form
  obtain ⟨pb, cb, rfl⟩ := hb.form
  rw [hla] at ha ⊢
  rw [hlb] at hb ⊢
  have HI := Lib.hid (And.intro ha (And.intro hb (And.intro hx (And.intro hr (And.intro hla hlb)))))
  clear ha hb hx hr hla hlb
  have S := St.start w
  go_enter Tryz.func36, Tryz.ntmps36
  go_wp2_with fail
  go_loopw [17] (fun si wr => ∃ k : Nat, k ≤ n ∧ si = .int .i64 k ∧ Hid (xs.take k = ys.take k) ∧ St w wr []) (fun si _ => n - (intOf si).toNat)
  case atStart => exact ⟨0, by omega, rfl, rfl, S⟩
  case round =>
    clear S
    obtain ⟨k, hk, rfl, hv, S⟩ := hrel
    by_cases hlt : k < n
    · obtain ⟨ga, oa, x, v0, v1, v2, rfl, hga, hqa, a0, a1, a2, b1, p1, l1, K1, p2, l2, K2, rfl, rfl, rfl, hs1, n1, n2⟩ := HI.out.1.get hlt
      obtain ⟨gb, ob, y, v0, v1, v2, rfl, hgb, hqb, c0, c1, c2, b2, q1, j1, J1, q2, j2, J2, rfl, rfl, rfl, hs2, n3, n4⟩ := HI.out.2.1.get hlt
      replace a0 := (S.below.cell (p := ⟨ga, oa + k * 3, none⟩) hga).trans a0
      replace a1 := (S.below.cell (p := ⟨ga, oa + k * 3 + 1, none⟩) hga).trans a1
      replace a2 := (S.below.cell (p := ⟨ga, oa + k * 3 + 2, none⟩) hga).trans a2
      have HC := Lib.hid (And.intro hgb (And.intro c0 (And.intro c1 c2)))
      clear c0 c1 c2
      have HQ := Lib.hid (And.intro hlt (And.intro hqa (And.intro hqb hgb)))
      have hki : (k : Int) < ((n : Nat) : Int) := by omega
      replace n1 := n1.below S.below (Nat.le_refl _)
      replace n2 := n2.below S.below (Nat.le_refl _)
      replace n3 := n3.below S.below (Nat.le_refl _)
      replace n4 := n4.below S.below (Nat.le_refl _)
      clear hlt hk hqa hqb hga hgb
      go_upto_region 6 with fail
      have H := S.hnew 39 [.bool b1, .slice p1 l1 K1, .slice p2 l2 K2]
      replace S := S.alloc 39 [.bool b1, .slice p1 l1 K1, .slice p2 l2 K2] (wr.heap.size)
      simp only [List.cons_append, List.nil_append] at S
      refine iv4 H n1 n2 n3 n4 ?_; clear n1 n2 n3 n4; intro n1 n2 n3 n4
      clear H a0 a1 a2
      generalize (wr.alloc (.cells #[.bool b1, .slice p1 l1 K1, .slice p2 l2 K2] 39)) = w1 at S n1 n2 n3 n4 ⊢
      have a0 := (S.below.cell (p := ⟨gb, ob + k * 3, none⟩) HC.out.1).trans HC.out.2.1
      have a1 := (S.below.cell (p := ⟨gb, ob + k * 3 + 1, none⟩) HC.out.1).trans HC.out.2.2.1
      have a2 := (S.below.cell (p := ⟨gb, ob + k * 3 + 2, none⟩) HC.out.1).trans HC.out.2.2.2
      generalize hgx : wr.heap.size = gx at S ⊢
      clear hgx
      go_upto_region 7 with fail
      have H := S.hnew 39 [.bool b2, .slice q1 j1 J1, .slice q2 j2 J2]
      replace S := S.alloc 39 [.bool b2, .slice q1 j1 J1, .slice q2 j2 J2] (w1.heap.size)
      simp only [List.cons_append, List.nil_append] at S
      refine iv4 H n1 n2 n3 n4 ?_; clear n1 n2 n3 n4; intro n1 n2 n3 n4
      clear H a0 a1 a2
      generalize (w1.alloc (.cells #[.bool b2, .slice q1 j1 J1, .slice q2 j2 J2] 39)) = w2 at S n1 n2 n3 n4 ⊢
      generalize hgy : w1.heap.size = gy at S ⊢
      clear hgy; obtain ⟨a0, a1, a2⟩ := S.c3 0 rfl; obtain ⟨c0, c1, c2⟩ := S.c3 1 rfl
      by_cases hxy : x = y
      · have HE := Lib.hid (decide_eq_true hxy)
        clear hxy; go_wp2_with fail
        refine (S.call (rsame_any ⟨b1, p1, l1, K1, p2, l2, K2, rfl, hs1, n1, n2⟩ ⟨b2, q1, j1, J1, q2, j2, J2, rfl, hs2, n3, n4⟩ (HI.out.2.2.1 x (List.mem_of_getElem? HQ.out.2.1)) HE.out)).mono ?_
        clear S
        rintro e w4 ⟨rfl, S, H⟩
        clear H n1 n2 n3 n4 hs1 hs2 a0 a1 a2 c0 c1 c2
        replace S := S.take 0 rfl
        go_wp2_with fail
        go_roundw
        case rel => exact ⟨k + 1, HQ.out.1, by go_num, by rw [take_snoc HQ.out.2.1, take_snoc HQ.out.2.2.1, hv.out, of_decide_eq_true HE.out]; rfl, S⟩
        case measure => have := HQ.out.1; simp [intOf]; omega
      · have HE := Lib.hid (decide_eq_false hxy)
        have hr' : r = false := by
          rw [← HI.out.2.2.2.1]
          refine decide_eq_false (fun e => hxy ?_)
          have h1 := HQ.out.2.1
          rw [e, HQ.out.2.2.1] at h1
          exact (Option.some.inj h1).symm
        clear hxy
        subst hr'
        go_wp2_with fail
        refine (S.call (rsame_any ⟨b1, p1, l1, K1, p2, l2, K2, rfl, hs1, n1, n2⟩ ⟨b2, q1, j1, J1, q2, j2, J2, rfl, hs2, n3, n4⟩ (HI.out.2.2.1 x (List.mem_of_getElem? HQ.out.2.1)) HE.out)).mono ?_
        clear S
        rintro e w4 ⟨rfl, S, H⟩
        clear H n1 n2 n3 n4 hs1 hs2 a0 a1 a2 c0 c1 c2; go_wp2_with fail
        exact bodyPost_ret (v := .bool false) (by simp [results, Tryz.f36, go_sem]) rfl ⟨rfl, S.below⟩
    · have hki : ¬ (k : Int) < ((n : Nat) : Int) := by omega
      have hkn : k = n := by omega
      subst hkn
      have hr' : r = true := by
        rw [← HI.out.2.2.2.1]
        refine decide_eq_true ?_
        have := hv.out
        rwa [List.take_of_length_le (by rw [HI.out.2.2.2.2.1]; omega), List.take_of_length_le (by rw [HI.out.2.2.2.2.2]; omega)] at this
      subst hr'
      clear hlt hk; go_wp2_with fail
      exact bodyPost_ret (v := .bool true) (by simp [results, Tryz.f36, go_sem]) rfl ⟨rfl, S.below⟩
set_option maxRecDepth 100000 in
set_option maxHeartbeats 4000000 in
theorem vsame_any {va vb : Value} {xs ys : List Rat} {w : World} (ha : Rats w va xs) (hb : Rats w vb ys) (n : Nat) (hla : xs.length = n) (hlb : ys.length = n) (hn : n ≤ 1000000) (hx : ∀ q, q ∈ xs → q.num.natAbs < maxN ∧ q.den < maxN) {r : Bool} (hr : decide (xs = ys) = r) :
    Calls Tryz.prog 11 #[va, vb] w fun e w' => e = .returned (.bool r) ∧ Below w.heap.size w w' := by
  have HV := Lib.hid (veqf_any ha hb n hla hlb hn hx hr)
  clear ha hb hla hlb hn hx hr
  have S := St.start w
  go_enter Tryz.func11, Tryz.ntmps11
  go_wp2_with fail
  refine (S.call (HV.out)).mono ?_
  clear S
  rintro e w1 ⟨rfl, S, H⟩
  clear H; go_wp2_with fail
  exact bodyPost_ret (v := .bool r) (by simp [results, Tryz.f11, go_sem]) rfl (⟨rfl, S.below⟩)
end Go.Proofs.YtcfgefbkeeedgaaGreat
