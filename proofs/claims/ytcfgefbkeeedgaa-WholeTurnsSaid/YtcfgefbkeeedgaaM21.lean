/-
  What the statement stands on.
-/
import Derived.Test.YtcfgefbkeeedgaaM19
import Derived.Test.YtcfgefbkeeedgaaM20
namespace Go.Proofs.Ytcfgefbkeeedgaa
open Go.RowKit
theorem or_two {g : Nat} {w W : World} {L : List (Nat × TypeId × List Value)} (S : St w W L) (i : Nat) {t : TypeId} (hi : L[i]? = some (g, t, [.int .i64 0, .int .i64 0])) :
    Calls Try.prog 15 #[.slice (some ⟨g, 0, none⟩) 2 2] W fun e w' => e = .returned (.int .i64 0) ∧ Below W.heap.size W w' :=
  or_zero g 2 W (S.lt i hi) (by decide) fun j hj => by
    match j, hj with
    | 0, _ => exact S.c i 0 hi rfl
    | 1, _ => exact S.c i 1 hi rfl
set_option maxRecDepth 100000 in
set_option maxHeartbeats 4000000 in
theorem cross_any {va vb : Value} {x y : Rat} {w : World} (ha : IsRat w va x) (hb : IsRat w vb y) (h1 : x.num.natAbs < maxN) (h2 : x.den < maxN) (h3 : y.num.natAbs < maxN) (h4 : y.den < maxN) (X Y : Int) (hX : x.num * y.den = X) (hY : y.num * x.den = Y) (hx : X.natAbs < maxN) (hy : Y.natAbs < maxN) :
    Calls Try.prog 28 #[va, vb] w fun e w' => (∃ u v, e = .returned (.tuple #[u, v, .int .i64 0]) ∧ IsInt w' u X ∧ IsInt w' v Y) ∧ Below w.heap.size w w' := by
  obtain ⟨b1, p1, l1, K1, q1, j1, J1, rfl, hb1, n1, d1⟩ := ha
  obtain ⟨b2, p2, l2, K2, q2, j2, J2, rfl, hb2, n2, d2⟩ := hb
  have HD := Lib.hid (And.intro h1 (And.intro h2 (And.intro h3 (And.intro h4 (And.intro hX (And.intro hY (And.intro hx hy)))))))
  clear h1 h2 h3 h4 hX hY hx hy
  have S := ((((St.start w).alloc 32 [.bool b1, .slice p1 l1 K1, .slice q1 j1 J1] (w.heap.size)).alloc 32 [.bool b2, .slice p2 l2 K2, .slice q2 j2 J2] (w.heap.size + 1)).alloc 30 [.bool false, .slice none 0 0] (w.heap.size + 1 + 1)).alloc 30 [.bool false, .slice none 0 0] (w.heap.size + 1 + 1 + 1)
  try simp only [List.cons_append, List.nil_append] at S
  refine iv4 S.hold n1 d1 n2 d2 ?_; clear n1 d1 n2 d2; intro n1 d1 n2 d2
  obtain ⟨c0_0, c0_1, c0_2⟩ := S.c3 0 rfl; obtain ⟨c1_0, c1_1, c1_2⟩ := S.c3 1 rfl; have c2_0 := S.c 2 0 rfl rfl; have c2_1 := S.c 2 1 rfl rfl; have c3_0 := S.c 3 0 rfl rfl; have c3_1 := S.c 3 1 rfl rfl
  go_enter Try.func28, Try.ntmps28
  go_upto_region 1 with fail
  clear c0_0 c0_1 c0_2 c1_0 c1_1 c1_2 c2_0 c2_1 c3_0 c3_1
  generalize ((((w.alloc (.cells #[.bool b1, .slice p1 l1 K1, .slice q1 j1 J1] 32)).alloc (.cells #[.bool b2, .slice p2 l2 K2, .slice q2 j2 J2] 32)).alloc (.cells #[.bool false, .slice none 0 0] 30)).alloc (.cells #[.bool false, .slice none 0 0] 30)) = w1 at S n1 d1 n2 d2 ⊢
  go_cut [7, 8] (fun s7 s8 wx => ∃ g7 p l K, s7 = .pointer (some ⟨g7, 0, none⟩) ∧ s8 = .int .i64 0 ∧ St w wx [(w.heap.size, 32, [.bool b1, .slice p1 l1 K1, .slice q1 j1 J1]), (w.heap.size + 1, 32, [.bool b2, .slice p2 l2 K2, .slice q2 j2 J2]), (w.heap.size + 1 + 1, 30, [.bool false, .slice none 0 0]), (w.heap.size + 1 + 1 + 1, 30, [.bool false, .slice none 0 0]), (g7, 30, [.bool (negB X), .slice p l K])] ∧ IsNat wx (.slice p l K) X.natAbs ∧ Hold w1 wx)
  case first =>
    have HH := Hold.drew w1
    refine iv4 HH n1 d1 n2 d2 ?_; clear n1 d1 n2 d2; intro n1 d1 n2 d2
    replace S := S.drew
    refine wp_region_held_drew (S := fun W => W.cell? ⟨w.heap.size, 0, none⟩ = some (.bool b1) ∧ W.cell? ⟨w.heap.size, 1, none⟩ = some (.slice p1 l1 K1) ∧ W.cell? ⟨w.heap.size + 1, 2, none⟩ = some (.slice q2 j2 J2)) (by kernel_rfl) ⟨(S.c 0 0 rfl rfl), ⟨(S.c 0 1 rfl rfl), (S.c 1 2 rfl rfl)⟩⟩ (fun hS => ?_)
    generalize w1.drew = w2 at S n1 d1 n2 d2 HH hS ⊢
    refine tk 0 hS ?_
    refine tk 1 hS ?_
    refine tk 2 hS ?_
    refine tk 3 hS ?_
    refine wpAnyH_ready (rs := [4, 9]) (by kernel_rfl) (by simp) (AllReadyH.cons (opOf rfl) (fun KK hKK => ?_) (AllReadyH.cons (opOf rfl) (fun KK hKK => ?_) AllReadyH.nil))
    ·
      go_simp; clear hS
      refine (S.call (wnat_any d2 HD.out.2.2.2.1 (y.den : Int) rfl)).mono ?_
      clear S
      rintro e w3 ⟨⟨_, rfl, pn, ln, Kn, rfl, nn⟩, S, H⟩
      refine iv4 H n1 d1 n2 d2 ?_; clear n1 d1 n2 d2; intro n1 d1 n2 d2; replace HH := HH.trans H; clear H
      go_wp2_with fail
      refine ho hKK ⟨(S.c 0 0 rfl rfl), ⟨(S.c 0 1 rfl rfl), (S.c 1 2 rfl rfl)⟩⟩ fun hS => ?_
      clear hKK KK
      refine wpAnyH_ready (rs := [5, 9]) (by kernel_rfl) (by simp) (AllReadyH.cons (opOf rfl) (fun KK hKK => ?_) (AllReadyH.cons (opOf rfl) (fun KK hKK => ?_) AllReadyH.nil))
      ·
        go_simp; clear hS
        refine (S.call (wmul_to ⟨_, _, _, by rw [hb1.out], n1⟩ ⟨_, _, _, rfl, nn⟩ HD.out.1 HD.out.2.2.2.1 X HD.out.2.2.2.2.1 HD.out.2.2.2.2.2.2.1)).mono ?_
        clear S
        rintro e w4 ⟨⟨_, rfl, p, l, K, rfl, nx⟩, S, H⟩
        refine iv5 H n1 d1 n2 d2 nn ?_; clear n1 d1 n2 d2 nn; intro n1 d1 n2 d2 nn; replace HH := HH.trans H; clear H
        go_wp2_with fail
        refine ho hKK ⟨(S.c 0 0 rfl rfl), ⟨(S.c 0 1 rfl rfl), (S.c 1 2 rfl rfl)⟩⟩ fun hS => ?_
        clear hKK KK
        refine tk 6 hS ?_
        refine tk 7 hS ?_
        refine tk 8 hS ?_
        refine rd 9 fun KK hKK => ?_
        go_simp; clear hS
        have H := S.hnew 30 [.bool false, .slice none 0 0]
        replace S := S.al 30 [.bool false, .slice none 0 0] (w4.heap.size)
        refine iv6 H n1 d1 n2 d2 nn nx ?_; clear n1 d1 n2 d2 nn nx; intro n1 d1 n2 d2 nn nx; replace HH := HH.trans H; clear H
        refine ho hKK ⟨(S.c 0 0 rfl rfl), ⟨(S.c 0 1 rfl rfl), (S.c 1 2 rfl rfl)⟩⟩ fun hS => ?_
        generalize (w4.alloc (.cells #[.bool false, .slice none 0 0] 30)) = w5 at S n1 d1 n2 d2 nn nx HH hS ⊢
        clear hKK KK
        refine rd 10 fun KK hKK => ?_
        have c0 := S.c 4 0 rfl rfl; have f0 := S.f 4 0 rfl; have c1 := S.c 4 1 rfl rfl; have f1 := S.f 4 1 rfl; go_simp; clear hS c0 f0 c1 f1
        have H := S.hset 4 0 (.bool (negB X)) rfl rfl (by intro q n e; cases e)
        replace S := S.set 4 0 (.bool (negB X)) rfl
        refine iv6 H n1 d1 n2 d2 nn nx ?_; clear n1 d1 n2 d2 nn nx; intro n1 d1 n2 d2 nn nx; replace HH := HH.trans H; clear H
        have H := S.hset 4 1 (.slice p l K) rfl rfl (by intro q n e; cases e)
        replace S := S.set 4 1 (.slice p l K) rfl
        refine iv6 H n1 d1 n2 d2 nn nx ?_; clear n1 d1 n2 d2 nn nx; intro n1 d1 n2 d2 nn nx; replace HH := HH.trans H; clear H
        refine ho hKK ⟨(S.c 0 0 rfl rfl), ⟨(S.c 0 1 rfl rfl), (S.c 1 2 rfl rfl)⟩⟩ fun hS => ?_
        generalize ((w5.setCell ⟨w4.heap.size, 0, none⟩ (.bool (negB X))).setCell ⟨w4.heap.size, 1, none⟩ (.slice p l K)) = w6 at S n1 d1 n2 d2 nn nx HH hS ⊢
        clear hKK KK
        refine rd 11 fun KK hKK => ?_
        go_simp
        refine ho hKK hS fun hS => ?_
        clear hKK KK
        refine wpAnyH_done (by kernel_rfl) ?_ _
        go_wp2_with fail
        go_meet
        case rel => exact ⟨w4.heap.size, p, l, K, rfl, rfl, S, nx, HH⟩
      ·
        go_simp; clear hS
        have H := S.hnew 30 [.bool false, .slice none 0 0]
        replace S := S.al 30 [.bool false, .slice none 0 0] (w3.heap.size)
        refine iv5 H n1 d1 n2 d2 nn ?_; clear n1 d1 n2 d2 nn; intro n1 d1 n2 d2 nn; replace HH := HH.trans H; clear H
        refine ho hKK ⟨(S.c 0 0 rfl rfl), ⟨(S.c 0 1 rfl rfl), (S.c 1 2 rfl rfl)⟩⟩ fun hS => ?_
        generalize (w3.alloc (.cells #[.bool false, .slice none 0 0] 30)) = w7 at S n1 d1 n2 d2 nn HH hS ⊢
        clear hKK KK
        refine rd 5 fun KK hKK => ?_
        go_simp; clear hS
        refine (S.call (wmul_to ⟨_, _, _, by rw [hb1.out], n1⟩ ⟨_, _, _, rfl, nn⟩ HD.out.1 HD.out.2.2.2.1 X HD.out.2.2.2.2.1 HD.out.2.2.2.2.2.2.1)).mono ?_
        clear S
        rintro e w8 ⟨⟨_, rfl, p, l, K, rfl, nx⟩, S, H⟩
        refine iv5 H n1 d1 n2 d2 nn ?_; clear n1 d1 n2 d2 nn; intro n1 d1 n2 d2 nn; replace HH := HH.trans H; clear H
        go_wp2_with fail
        refine ho hKK ⟨(S.c 0 0 rfl rfl), ⟨(S.c 0 1 rfl rfl), (S.c 1 2 rfl rfl)⟩⟩ fun hS => ?_
        clear hKK KK
        refine tk 6 hS ?_
        refine tk 7 hS ?_
        refine tk 8 hS ?_
        refine rd 10 fun KK hKK => ?_
        have c0 := S.c 4 0 rfl rfl; have f0 := S.f 4 0 rfl; have c1 := S.c 4 1 rfl rfl; have f1 := S.f 4 1 rfl; go_simp; clear hS c0 f0 c1 f1
        have H := S.hset 4 0 (.bool (negB X)) rfl rfl (by intro q n e; cases e)
        replace S := S.set 4 0 (.bool (negB X)) rfl
        refine iv6 H n1 d1 n2 d2 nn nx ?_; clear n1 d1 n2 d2 nn nx; intro n1 d1 n2 d2 nn nx; replace HH := HH.trans H; clear H
        have H := S.hset 4 1 (.slice p l K) rfl rfl (by intro q n e; cases e)
        replace S := S.set 4 1 (.slice p l K) rfl
        refine iv6 H n1 d1 n2 d2 nn nx ?_; clear n1 d1 n2 d2 nn nx; intro n1 d1 n2 d2 nn nx; replace HH := HH.trans H; clear H
        refine ho hKK ⟨(S.c 0 0 rfl rfl), ⟨(S.c 0 1 rfl rfl), (S.c 1 2 rfl rfl)⟩⟩ fun hS => ?_
        generalize ((w8.setCell ⟨w3.heap.size, 0, none⟩ (.bool (negB X))).setCell ⟨w3.heap.size, 1, none⟩ (.slice p l K)) = w9 at S n1 d1 n2 d2 nn nx HH hS ⊢
        clear hKK KK
        refine rd 11 fun KK hKK => ?_
        go_simp
        refine ho hKK hS fun hS => ?_
        clear hKK KK
        refine wpAnyH_done (by kernel_rfl) ?_ _
        go_wp2_with fail
        go_meet
        case rel => exact ⟨w3.heap.size, p, l, K, rfl, rfl, S, nx, HH⟩
    ·
      go_simp; clear hS
      have H := S.hnew 30 [.bool false, .slice none 0 0]
      replace S := S.al 30 [.bool false, .slice none 0 0] (w2.heap.size)
      refine iv4 H n1 d1 n2 d2 ?_; clear n1 d1 n2 d2; intro n1 d1 n2 d2; replace HH := HH.trans H; clear H
      refine ho hKK ⟨(S.c 0 0 rfl rfl), ⟨(S.c 0 1 rfl rfl), (S.c 1 2 rfl rfl)⟩⟩ fun hS => ?_
      generalize (w2.alloc (.cells #[.bool false, .slice none 0 0] 30)) = w10 at S n1 d1 n2 d2 HH hS ⊢
      clear hKK KK
      refine rd 4 fun KK hKK => ?_
      go_simp; clear hS
      refine (S.call (wnat_any d2 HD.out.2.2.2.1 (y.den : Int) rfl)).mono ?_
      clear S
      rintro e w11 ⟨⟨_, rfl, pn, ln, Kn, rfl, nn⟩, S, H⟩
      refine iv4 H n1 d1 n2 d2 ?_; clear n1 d1 n2 d2; intro n1 d1 n2 d2; replace HH := HH.trans H; clear H
      go_wp2_with fail
      refine ho hKK ⟨(S.c 0 0 rfl rfl), ⟨(S.c 0 1 rfl rfl), (S.c 1 2 rfl rfl)⟩⟩ fun hS => ?_
      clear hKK KK
      refine rd 5 fun KK hKK => ?_
      go_simp; clear hS
      refine (S.call (wmul_to ⟨_, _, _, by rw [hb1.out], n1⟩ ⟨_, _, _, rfl, nn⟩ HD.out.1 HD.out.2.2.2.1 X HD.out.2.2.2.2.1 HD.out.2.2.2.2.2.2.1)).mono ?_
      clear S
      rintro e w12 ⟨⟨_, rfl, p, l, K, rfl, nx⟩, S, H⟩
      refine iv5 H n1 d1 n2 d2 nn ?_; clear n1 d1 n2 d2 nn; intro n1 d1 n2 d2 nn; replace HH := HH.trans H; clear H
      go_wp2_with fail
      refine ho hKK ⟨(S.c 0 0 rfl rfl), ⟨(S.c 0 1 rfl rfl), (S.c 1 2 rfl rfl)⟩⟩ fun hS => ?_
      clear hKK KK
      refine tk 6 hS ?_
      refine tk 7 hS ?_
      refine tk 8 hS ?_
      refine rd 10 fun KK hKK => ?_
      have c0 := S.c 4 0 rfl rfl; have f0 := S.f 4 0 rfl; have c1 := S.c 4 1 rfl rfl; have f1 := S.f 4 1 rfl; go_simp; clear hS c0 f0 c1 f1
      have H := S.hset 4 0 (.bool (negB X)) rfl rfl (by intro q n e; cases e)
      replace S := S.set 4 0 (.bool (negB X)) rfl
      refine iv6 H n1 d1 n2 d2 nn nx ?_; clear n1 d1 n2 d2 nn nx; intro n1 d1 n2 d2 nn nx; replace HH := HH.trans H; clear H
      have H := S.hset 4 1 (.slice p l K) rfl rfl (by intro q n e; cases e)
      replace S := S.set 4 1 (.slice p l K) rfl
      refine iv6 H n1 d1 n2 d2 nn nx ?_; clear n1 d1 n2 d2 nn nx; intro n1 d1 n2 d2 nn nx; replace HH := HH.trans H; clear H
      refine ho hKK ⟨(S.c 0 0 rfl rfl), ⟨(S.c 0 1 rfl rfl), (S.c 1 2 rfl rfl)⟩⟩ fun hS => ?_
      generalize ((w12.setCell ⟨w2.heap.size, 0, none⟩ (.bool (negB X))).setCell ⟨w2.heap.size, 1, none⟩ (.slice p l K)) = w13 at S n1 d1 n2 d2 nn nx HH hS ⊢
      clear hKK KK
      refine rd 11 fun KK hKK => ?_
      go_simp
      refine ho hKK hS fun hS => ?_
      clear hKK KK
      refine wpAnyH_done (by kernel_rfl) ?_ _
      go_wp2_with fail
      go_meet
      case rel => exact ⟨w2.heap.size, p, l, K, rfl, rfl, S, nx, HH⟩
  case rest =>
    obtain ⟨g7, p, l, K, rfl, rfl, S, nx, HH⟩ := hcut
    obtain ⟨w14, rfl⟩ : ∃ W : World, W = wc := ⟨_, rfl⟩
    refine iv4 HH n1 d1 n2 d2 ?_; clear n1 d1 n2 d2; intro n1 d1 n2 d2; clear HH; obtain ⟨c0_0, c0_1, c0_2⟩ := S.c3 0 rfl; obtain ⟨c1_0, c1_1, c1_2⟩ := S.c3 1 rfl; have c2_0 := S.c 2 0 rfl rfl; have c2_1 := S.c 2 1 rfl rfl; have c3_0 := S.c 3 0 rfl rfl; have c3_1 := S.c 3 1 rfl rfl; have c4_0 := S.c 4 0 rfl rfl; have c4_1 := S.c 4 1 rfl rfl
    go_upto_region 2 with fail
    clear c0_0 c0_1 c0_2 c1_0 c1_1 c1_2 c2_0 c2_1 c3_0 c3_1 c4_0 c4_1
    go_cut [9, 10] (fun s9 s10 wx => ∃ g9 pb lb Kb, s9 = .pointer (some ⟨g9, 0, none⟩) ∧ s10 = .int .i64 0 ∧ St w wx [(w.heap.size, 32, [.bool b1, .slice p1 l1 K1, .slice q1 j1 J1]), (w.heap.size + 1, 32, [.bool b2, .slice p2 l2 K2, .slice q2 j2 J2]), (w.heap.size + 1 + 1, 30, [.bool false, .slice none 0 0]), (w.heap.size + 1 + 1 + 1, 30, [.bool false, .slice none 0 0]), (g7, 30, [.bool (negB X), .slice p l K]), (g9, 30, [.bool (negB Y), .slice pb lb Kb])] ∧ IsNat wx (.slice pb lb Kb) Y.natAbs ∧ Hold w14 wx)
    case first =>
      have HH := Hold.drew w14
      refine iv5 HH n1 d1 n2 d2 nx ?_; clear n1 d1 n2 d2 nx; intro n1 d1 n2 d2 nx
      replace S := S.drew
      refine wp_region_held_drew (S := fun W => W.cell? ⟨w.heap.size + 1, 0, none⟩ = some (.bool b2) ∧ W.cell? ⟨w.heap.size + 1, 1, none⟩ = some (.slice p2 l2 K2) ∧ W.cell? ⟨w.heap.size, 2, none⟩ = some (.slice q1 j1 J1)) (by kernel_rfl) ⟨(S.c 1 0 rfl rfl), ⟨(S.c 1 1 rfl rfl), (S.c 0 2 rfl rfl)⟩⟩ (fun hS => ?_)
      generalize w14.drew = w15 at S n1 d1 n2 d2 nx HH hS ⊢
      refine tk 0 hS ?_
      refine tk 1 hS ?_
      refine tk 2 hS ?_
      refine tk 3 hS ?_
      refine wpAnyH_ready (rs := [4, 9]) (by kernel_rfl) (by simp) (AllReadyH.cons (opOf rfl) (fun KK hKK => ?_) (AllReadyH.cons (opOf rfl) (fun KK hKK => ?_) AllReadyH.nil))
      ·
        go_simp; clear hS
        refine (S.call (wnat_any d1 HD.out.2.1 (x.den : Int) rfl)).mono ?_
        clear S
        rintro e w16 ⟨⟨_, rfl, pn, ln, Kn, rfl, nn⟩, S, H⟩
        refine iv5 H n1 d1 n2 d2 nx ?_; clear n1 d1 n2 d2 nx; intro n1 d1 n2 d2 nx; replace HH := HH.trans H; clear H
        go_wp2_with fail
        refine ho hKK ⟨(S.c 1 0 rfl rfl), ⟨(S.c 1 1 rfl rfl), (S.c 0 2 rfl rfl)⟩⟩ fun hS => ?_
        clear hKK KK
        refine wpAnyH_ready (rs := [5, 9]) (by kernel_rfl) (by simp) (AllReadyH.cons (opOf rfl) (fun KK hKK => ?_) (AllReadyH.cons (opOf rfl) (fun KK hKK => ?_) AllReadyH.nil))
        ·
          go_simp; clear hS
          refine (S.call (wmul_to ⟨_, _, _, by rw [hb2.out], n2⟩ ⟨_, _, _, rfl, nn⟩ HD.out.2.2.1 HD.out.2.1 Y HD.out.2.2.2.2.2.1 HD.out.2.2.2.2.2.2.2)).mono ?_
          clear S
          rintro e w17 ⟨⟨_, rfl, pb, lb, Kb, rfl, ny⟩, S, H⟩
          refine iv6 H n1 d1 n2 d2 nx nn ?_; clear n1 d1 n2 d2 nx nn; intro n1 d1 n2 d2 nx nn; replace HH := HH.trans H; clear H
          go_wp2_with fail
          refine ho hKK ⟨(S.c 1 0 rfl rfl), ⟨(S.c 1 1 rfl rfl), (S.c 0 2 rfl rfl)⟩⟩ fun hS => ?_
          clear hKK KK
          refine tk 6 hS ?_
          refine tk 7 hS ?_
          refine tk 8 hS ?_
          refine rd 9 fun KK hKK => ?_
          go_simp; clear hS
          have H := S.hnew 30 [.bool false, .slice none 0 0]
          replace S := S.al 30 [.bool false, .slice none 0 0] (w17.heap.size)
          refine iv7 H n1 d1 n2 d2 nx nn ny ?_; clear n1 d1 n2 d2 nx nn ny; intro n1 d1 n2 d2 nx nn ny; replace HH := HH.trans H; clear H
          refine ho hKK ⟨(S.c 1 0 rfl rfl), ⟨(S.c 1 1 rfl rfl), (S.c 0 2 rfl rfl)⟩⟩ fun hS => ?_
          generalize (w17.alloc (.cells #[.bool false, .slice none 0 0] 30)) = w18 at S n1 d1 n2 d2 nx nn ny HH hS ⊢
          clear hKK KK
          refine rd 10 fun KK hKK => ?_
          have c0 := S.c 5 0 rfl rfl; have f0 := S.f 5 0 rfl; have c1 := S.c 5 1 rfl rfl; have f1 := S.f 5 1 rfl; go_simp; clear hS c0 f0 c1 f1
          have H := S.hset 5 0 (.bool (negB Y)) rfl rfl (by intro q n e; cases e)
          replace S := S.set 5 0 (.bool (negB Y)) rfl
          refine iv7 H n1 d1 n2 d2 nx nn ny ?_; clear n1 d1 n2 d2 nx nn ny; intro n1 d1 n2 d2 nx nn ny; replace HH := HH.trans H; clear H
          have H := S.hset 5 1 (.slice pb lb Kb) rfl rfl (by intro q n e; cases e)
          replace S := S.set 5 1 (.slice pb lb Kb) rfl
          refine iv7 H n1 d1 n2 d2 nx nn ny ?_; clear n1 d1 n2 d2 nx nn ny; intro n1 d1 n2 d2 nx nn ny; replace HH := HH.trans H; clear H
          refine ho hKK ⟨(S.c 1 0 rfl rfl), ⟨(S.c 1 1 rfl rfl), (S.c 0 2 rfl rfl)⟩⟩ fun hS => ?_
          generalize ((w18.setCell ⟨w17.heap.size, 0, none⟩ (.bool (negB Y))).setCell ⟨w17.heap.size, 1, none⟩ (.slice pb lb Kb)) = w19 at S n1 d1 n2 d2 nx nn ny HH hS ⊢
          clear hKK KK
          refine rd 11 fun KK hKK => ?_
          go_simp
          refine ho hKK hS fun hS => ?_
          clear hKK KK
          refine wpAnyH_done (by kernel_rfl) ?_ _
          go_wp2_with fail
          go_meet
          case rel => exact ⟨w17.heap.size, pb, lb, Kb, rfl, rfl, S, ny, HH⟩
        ·
          go_simp; clear hS
          have H := S.hnew 30 [.bool false, .slice none 0 0]
          replace S := S.al 30 [.bool false, .slice none 0 0] (w16.heap.size)
          refine iv6 H n1 d1 n2 d2 nx nn ?_; clear n1 d1 n2 d2 nx nn; intro n1 d1 n2 d2 nx nn; replace HH := HH.trans H; clear H
          refine ho hKK ⟨(S.c 1 0 rfl rfl), ⟨(S.c 1 1 rfl rfl), (S.c 0 2 rfl rfl)⟩⟩ fun hS => ?_
          generalize (w16.alloc (.cells #[.bool false, .slice none 0 0] 30)) = w20 at S n1 d1 n2 d2 nx nn HH hS ⊢
          clear hKK KK
          refine rd 5 fun KK hKK => ?_
          go_simp; clear hS
          refine (S.call (wmul_to ⟨_, _, _, by rw [hb2.out], n2⟩ ⟨_, _, _, rfl, nn⟩ HD.out.2.2.1 HD.out.2.1 Y HD.out.2.2.2.2.2.1 HD.out.2.2.2.2.2.2.2)).mono ?_
          clear S
          rintro e w21 ⟨⟨_, rfl, pb, lb, Kb, rfl, ny⟩, S, H⟩
          refine iv6 H n1 d1 n2 d2 nx nn ?_; clear n1 d1 n2 d2 nx nn; intro n1 d1 n2 d2 nx nn; replace HH := HH.trans H; clear H
          go_wp2_with fail
          refine ho hKK ⟨(S.c 1 0 rfl rfl), ⟨(S.c 1 1 rfl rfl), (S.c 0 2 rfl rfl)⟩⟩ fun hS => ?_
          clear hKK KK
          refine tk 6 hS ?_
          refine tk 7 hS ?_
          refine tk 8 hS ?_
          refine rd 10 fun KK hKK => ?_
          have c0 := S.c 5 0 rfl rfl; have f0 := S.f 5 0 rfl; have c1 := S.c 5 1 rfl rfl; have f1 := S.f 5 1 rfl; go_simp; clear hS c0 f0 c1 f1
          have H := S.hset 5 0 (.bool (negB Y)) rfl rfl (by intro q n e; cases e)
          replace S := S.set 5 0 (.bool (negB Y)) rfl
          refine iv7 H n1 d1 n2 d2 nx nn ny ?_; clear n1 d1 n2 d2 nx nn ny; intro n1 d1 n2 d2 nx nn ny; replace HH := HH.trans H; clear H
          have H := S.hset 5 1 (.slice pb lb Kb) rfl rfl (by intro q n e; cases e)
          replace S := S.set 5 1 (.slice pb lb Kb) rfl
          refine iv7 H n1 d1 n2 d2 nx nn ny ?_; clear n1 d1 n2 d2 nx nn ny; intro n1 d1 n2 d2 nx nn ny; replace HH := HH.trans H; clear H
          refine ho hKK ⟨(S.c 1 0 rfl rfl), ⟨(S.c 1 1 rfl rfl), (S.c 0 2 rfl rfl)⟩⟩ fun hS => ?_
          generalize ((w21.setCell ⟨w16.heap.size, 0, none⟩ (.bool (negB Y))).setCell ⟨w16.heap.size, 1, none⟩ (.slice pb lb Kb)) = w22 at S n1 d1 n2 d2 nx nn ny HH hS ⊢
          clear hKK KK
          refine rd 11 fun KK hKK => ?_
          go_simp
          refine ho hKK hS fun hS => ?_
          clear hKK KK
          refine wpAnyH_done (by kernel_rfl) ?_ _
          go_wp2_with fail
          go_meet
          case rel => exact ⟨w16.heap.size, pb, lb, Kb, rfl, rfl, S, ny, HH⟩
      ·
        go_simp; clear hS
        have H := S.hnew 30 [.bool false, .slice none 0 0]
        replace S := S.al 30 [.bool false, .slice none 0 0] (w15.heap.size)
        refine iv5 H n1 d1 n2 d2 nx ?_; clear n1 d1 n2 d2 nx; intro n1 d1 n2 d2 nx; replace HH := HH.trans H; clear H
        refine ho hKK ⟨(S.c 1 0 rfl rfl), ⟨(S.c 1 1 rfl rfl), (S.c 0 2 rfl rfl)⟩⟩ fun hS => ?_
        generalize (w15.alloc (.cells #[.bool false, .slice none 0 0] 30)) = w23 at S n1 d1 n2 d2 nx HH hS ⊢
        clear hKK KK
        refine rd 4 fun KK hKK => ?_
        go_simp; clear hS
        refine (S.call (wnat_any d1 HD.out.2.1 (x.den : Int) rfl)).mono ?_
        clear S
        rintro e w24 ⟨⟨_, rfl, pn, ln, Kn, rfl, nn⟩, S, H⟩
        refine iv5 H n1 d1 n2 d2 nx ?_; clear n1 d1 n2 d2 nx; intro n1 d1 n2 d2 nx; replace HH := HH.trans H; clear H
        go_wp2_with fail
        refine ho hKK ⟨(S.c 1 0 rfl rfl), ⟨(S.c 1 1 rfl rfl), (S.c 0 2 rfl rfl)⟩⟩ fun hS => ?_
        clear hKK KK
        refine rd 5 fun KK hKK => ?_
        go_simp; clear hS
        refine (S.call (wmul_to ⟨_, _, _, by rw [hb2.out], n2⟩ ⟨_, _, _, rfl, nn⟩ HD.out.2.2.1 HD.out.2.1 Y HD.out.2.2.2.2.2.1 HD.out.2.2.2.2.2.2.2)).mono ?_
        clear S
        rintro e w25 ⟨⟨_, rfl, pb, lb, Kb, rfl, ny⟩, S, H⟩
        refine iv6 H n1 d1 n2 d2 nx nn ?_; clear n1 d1 n2 d2 nx nn; intro n1 d1 n2 d2 nx nn; replace HH := HH.trans H; clear H
        go_wp2_with fail
        refine ho hKK ⟨(S.c 1 0 rfl rfl), ⟨(S.c 1 1 rfl rfl), (S.c 0 2 rfl rfl)⟩⟩ fun hS => ?_
        clear hKK KK
        refine tk 6 hS ?_
        refine tk 7 hS ?_
        refine tk 8 hS ?_
        refine rd 10 fun KK hKK => ?_
        have c0 := S.c 5 0 rfl rfl; have f0 := S.f 5 0 rfl; have c1 := S.c 5 1 rfl rfl; have f1 := S.f 5 1 rfl; go_simp; clear hS c0 f0 c1 f1
        have H := S.hset 5 0 (.bool (negB Y)) rfl rfl (by intro q n e; cases e)
        replace S := S.set 5 0 (.bool (negB Y)) rfl
        refine iv7 H n1 d1 n2 d2 nx nn ny ?_; clear n1 d1 n2 d2 nx nn ny; intro n1 d1 n2 d2 nx nn ny; replace HH := HH.trans H; clear H
        have H := S.hset 5 1 (.slice pb lb Kb) rfl rfl (by intro q n e; cases e)
        replace S := S.set 5 1 (.slice pb lb Kb) rfl
        refine iv7 H n1 d1 n2 d2 nx nn ny ?_; clear n1 d1 n2 d2 nx nn ny; intro n1 d1 n2 d2 nx nn ny; replace HH := HH.trans H; clear H
        refine ho hKK ⟨(S.c 1 0 rfl rfl), ⟨(S.c 1 1 rfl rfl), (S.c 0 2 rfl rfl)⟩⟩ fun hS => ?_
        generalize ((w25.setCell ⟨w15.heap.size, 0, none⟩ (.bool (negB Y))).setCell ⟨w15.heap.size, 1, none⟩ (.slice pb lb Kb)) = w26 at S n1 d1 n2 d2 nx nn ny HH hS ⊢
        clear hKK KK
        refine rd 11 fun KK hKK => ?_
        go_simp
        refine ho hKK hS fun hS => ?_
        clear hKK KK
        refine wpAnyH_done (by kernel_rfl) ?_ _
        go_wp2_with fail
        go_meet
        case rel => exact ⟨w15.heap.size, pb, lb, Kb, rfl, rfl, S, ny, HH⟩
    case rest =>
      obtain ⟨g9, pb, lb, Kb, rfl, rfl, S, ny, HH⟩ := hcut
      obtain ⟨w27, rfl⟩ : ∃ W : World, W = wc := ⟨_, rfl⟩
      refine iv5 HH n1 d1 n2 d2 nx ?_; clear n1 d1 n2 d2 nx; intro n1 d1 n2 d2 nx; clear HH; obtain ⟨c0_0, c0_1, c0_2⟩ := S.c3 0 rfl; obtain ⟨c1_0, c1_1, c1_2⟩ := S.c3 1 rfl; have c2_0 := S.c 2 0 rfl rfl; have c2_1 := S.c 2 1 rfl rfl; have c3_0 := S.c 3 0 rfl rfl; have c3_1 := S.c 3 1 rfl rfl; have c4_0 := S.c 4 0 rfl rfl; have c4_1 := S.c 4 1 rfl rfl; have c5_0 := S.c 5 0 rfl rfl; have c5_1 := S.c 5 1 rfl rfl
      go_upto_region 3 with fail
      clear c0_0 c0_1 c0_2 c1_0 c1_1 c1_2 c2_0 c2_1 c3_0 c3_1 c4_0 c4_1 c5_0 c5_1
      have HH := Hold.drew w27
      refine iv6 HH n1 d1 n2 d2 nx ny ?_; clear n1 d1 n2 d2 nx ny; intro n1 d1 n2 d2 nx ny
      replace S := S.drew
      refine wp_region_held_drew (S := fun W => W.cell? ⟨g7, 0, none⟩ = some (.bool (negB X)) ∧ W.cell? ⟨g7, 1, none⟩ = some (.slice p l K) ∧ W.cell? ⟨g9, 0, none⟩ = some (.bool (negB Y)) ∧ W.cell? ⟨g9, 1, none⟩ = some (.slice pb lb Kb)) (by kernel_rfl) ⟨(S.c 4 0 rfl rfl), ⟨(S.c 4 1 rfl rfl), ⟨(S.c 5 0 rfl rfl), (S.c 5 1 rfl rfl)⟩⟩⟩ (fun hS => ?_)
      generalize w27.drew = w28 at S n1 d1 n2 d2 nx ny HH hS ⊢
      refine tk 0 hS ?_
      refine tk 1 hS ?_
      refine tk 2 hS ?_
      refine tk 3 hS ?_
      refine rd 4 fun KK hKK => ?_
      go_simp; clear hS
      have H := S.hnew 33 [.int .i64 0, .int .i64 0]
      replace S := S.al 33 [.int .i64 0, .int .i64 0] (w28.heap.size)
      refine iv6 H n1 d1 n2 d2 nx ny ?_; clear n1 d1 n2 d2 nx ny; intro n1 d1 n2 d2 nx ny; replace HH := HH.trans H; clear H
      refine ho hKK ⟨(S.c 4 0 rfl rfl), ⟨(S.c 4 1 rfl rfl), ⟨(S.c 5 0 rfl rfl), (S.c 5 1 rfl rfl)⟩⟩⟩ fun hS => ?_
      generalize (w28.alloc (.cells #[.int .i64 0, .int .i64 0] 33)) = w29 at S n1 d1 n2 d2 nx ny HH hS ⊢
      clear hKK KK
      refine rd 5 fun KK hKK => ?_
      go_simp; clear hS
      refine (S.call (or_two S 6 rfl)).mono ?_
      clear S
      rintro e w30 ⟨rfl, S, H⟩
      refine iv6 H n1 d1 n2 d2 nx ny ?_; clear n1 d1 n2 d2 nx ny; intro n1 d1 n2 d2 nx ny; replace HH := HH.trans H; clear H
      go_wp2_with fail
      refine ho hKK ⟨(S.c 4 0 rfl rfl), ⟨(S.c 4 1 rfl rfl), ⟨(S.c 5 0 rfl rfl), (S.c 5 1 rfl rfl)⟩⟩⟩ fun hS => ?_
      clear hKK KK
      refine rd 6 fun KK hKK => ?_
      have c0 := S.c 2 0 rfl rfl; have f0 := S.f 2 0 rfl; have c1 := S.c 2 1 rfl rfl; have f1 := S.f 2 1 rfl; go_simp; clear hS c0 f0 c1 f1
      have H := S.hset 2 0 (.bool (negB X)) rfl rfl (by intro q n e; cases e)
      replace S := S.set 2 0 (.bool (negB X)) rfl
      refine iv6 H n1 d1 n2 d2 nx ny ?_; clear n1 d1 n2 d2 nx ny; intro n1 d1 n2 d2 nx ny; replace HH := HH.trans H; clear H
      have H := S.hset 2 1 (.slice p l K) rfl rfl (by intro q n e; cases e)
      replace S := S.set 2 1 (.slice p l K) rfl
      refine iv6 H n1 d1 n2 d2 nx ny ?_; clear n1 d1 n2 d2 nx ny; intro n1 d1 n2 d2 nx ny; replace HH := HH.trans H; clear H
      refine ho hKK ⟨(S.c 4 0 rfl rfl), ⟨(S.c 4 1 rfl rfl), ⟨(S.c 5 0 rfl rfl), (S.c 5 1 rfl rfl)⟩⟩⟩ fun hS => ?_
      generalize ((w30.setCell ⟨w.heap.size + 1 + 1, 0, none⟩ (.bool (negB X))).setCell ⟨w.heap.size + 1 + 1, 1, none⟩ (.slice p l K)) = w31 at S n1 d1 n2 d2 nx ny HH hS ⊢
      clear hKK KK
      refine rd 7 fun KK hKK => ?_
      have c0 := S.c 3 0 rfl rfl; have f0 := S.f 3 0 rfl; have c1 := S.c 3 1 rfl rfl; have f1 := S.f 3 1 rfl; go_simp; clear hS c0 f0 c1 f1
      have H := S.hset 3 0 (.bool (negB Y)) rfl rfl (by intro q n e; cases e)
      replace S := S.set 3 0 (.bool (negB Y)) rfl
      refine iv6 H n1 d1 n2 d2 nx ny ?_; clear n1 d1 n2 d2 nx ny; intro n1 d1 n2 d2 nx ny; replace HH := HH.trans H; clear H
      have H := S.hset 3 1 (.slice pb lb Kb) rfl rfl (by intro q n e; cases e)
      replace S := S.set 3 1 (.slice pb lb Kb) rfl
      refine iv6 H n1 d1 n2 d2 nx ny ?_; clear n1 d1 n2 d2 nx ny; intro n1 d1 n2 d2 nx ny; replace HH := HH.trans H; clear H
      refine ho hKK ⟨(S.c 4 0 rfl rfl), ⟨(S.c 4 1 rfl rfl), ⟨(S.c 5 0 rfl rfl), (S.c 5 1 rfl rfl)⟩⟩⟩ fun hS => ?_
      generalize ((w31.setCell ⟨w.heap.size + 1 + 1 + 1, 0, none⟩ (.bool (negB Y))).setCell ⟨w.heap.size + 1 + 1 + 1, 1, none⟩ (.slice pb lb Kb)) = w32 at S n1 d1 n2 d2 nx ny HH hS ⊢
      clear hKK KK
      refine rd 8 fun KK hKK => ?_
      go_simp
      refine ho hKK hS fun hS => ?_
      clear hKK KK
      refine wpAnyH_done (by kernel_rfl) ?_ _
      clear hS HH; obtain ⟨c0_0, c0_1, c0_2⟩ := S.c3 0 rfl; obtain ⟨c1_0, c1_1, c1_2⟩ := S.c3 1 rfl; have c2_0 := S.c 2 0 rfl rfl; have c2_1 := S.c 2 1 rfl rfl; have c3_0 := S.c 3 0 rfl rfl; have c3_1 := S.c 3 1 rfl rfl; have c4_0 := S.c 4 0 rfl rfl; have c4_1 := S.c 4 1 rfl rfl; have c5_0 := S.c 5 0 rfl rfl; have c5_1 := S.c 5 1 rfl rfl; go_wp2_with fail; have d2_0 := S.c 2 0 rfl rfl; have d2_1 := S.c 2 1 rfl rfl; have d3_0 := S.c 3 0 rfl rfl; have d3_1 := S.c 3 1 rfl rfl
      exact bodyPost_ret (v := .tuple #[.agg #[.bool (negB X), .slice p l K], .agg #[.bool (negB Y), .slice pb lb Kb], .int .i64 0]) (by simp [results, Try.f28, go_sem, d2_0, d2_1, d3_0, d3_1]) rfl (⟨⟨_, _, rfl, ⟨p, l, K, rfl, nx⟩, ⟨pb, lb, Kb, rfl, ny⟩⟩, S.below⟩)
theorem make_parts (n d : Int) (h0 : d ≠ 0) : 0 < Nat.gcd n.natAbs d.natAbs ∧ (Rat.divInt n d).den = d.natAbs / Nat.gcd n.natAbs d.natAbs ∧ (0 < d → (Rat.divInt n d).num = n / ((Nat.gcd n.natAbs d.natAbs : Nat) : Int)) ∧ (d < 0 → (Rat.divInt n d).num = -(n / ((Nat.gcd n.natAbs d.natAbs : Nat) : Int))) := by
  have hg : Int.gcd d n = Nat.gcd n.natAbs d.natAbs := by rw [Int.gcd_eq_natAbs_gcd_natAbs, Nat.gcd_comm]
  have hdvd : ((Nat.gcd n.natAbs d.natAbs : Nat) : Int) ∣ n := Int.ofNat_dvd_left.2 (Nat.gcd_dvd_left _ _)
  refine ⟨Nat.gcd_pos_of_pos_right _ (by omega), ?_, fun h => ?_, fun h => ?_⟩
  · rw [Rat.den_divInt, if_neg h0, hg]
  · rw [Rat.num_divInt, hg, Int.sign_eq_one_of_pos h, Int.one_mul]
  · rw [Rat.num_divInt, hg, Int.sign_eq_neg_one_of_neg h, Int.neg_one_mul, Int.neg_ediv_of_dvd hdvd]
set_option maxRecDepth 100000 in
set_option maxHeartbeats 8000000 in
theorem rmake_any {va vb : Value} {n d : Int} {w : World} (ha : IsInt w va n) (hb : IsInt w vb d) (hn : n.natAbs < maxN) (hd : d.natAbs < maxN) (h0 : d ≠ 0) (q : Rat) (hq : q = Rat.divInt n d) :
    Calls Try.prog 30 #[va, vb] w fun e w' => (∃ u, e = .returned (.tuple #[u, .int .i64 0]) ∧ IsRat w' u q) ∧ Below w.heap.size w w' := by
  obtain ⟨p1, l1, K1, rfl, n1⟩ := ha
  obtain ⟨p2, l2, K2, rfl, n2⟩ := hb
  obtain ⟨b1, hb1⟩ : ∃ b1, negB n = b1 := ⟨_, rfl⟩
  obtain ⟨b2, hb2⟩ : ∃ b2, negB d = b2 := ⟨_, rfl⟩
  rw [hb1, hb2]
  obtain ⟨g, hg⟩ : ∃ g, Nat.gcd n.natAbs d.natAbs = g := ⟨_, rfl⟩
  have mp := make_parts n d h0
  rw [hg, ← hq] at mp
  obtain ⟨z, hz⟩ : ∃ z, n / (g : Int) = z := ⟨_, rfl⟩
  obtain ⟨zr, hzr⟩ : ∃ z, n % (g : Int) = z := ⟨_, rfl⟩
  obtain ⟨y, hy⟩ : ∃ z, ((d.natAbs : Nat) : Int) / (g : Int) = z := ⟨_, rfl⟩
  obtain ⟨yr, hyr⟩ : ∃ z, ((d.natAbs : Nat) : Int) % (g : Int) = z := ⟨_, rfl⟩
  rw [hz] at mp
  have hgm : g < maxN := by
    have : g ≤ d.natAbs := hg ▸ Nat.gcd_le_right _ (by omega)
    omega
  have hyd : y.natAbs = q.den := by
    rw [← hy, mp.2.1, ← Int.natCast_ediv, Int.natAbs_natCast]
  have hzm : z.natAbs < maxN := hz ▸ Nat.lt_of_le_of_lt (Int.natAbs_ediv_le_natAbs _ _) hn
  have hg0 : ((g : Nat) : Int) ≠ 0 := by have := mp.1; omega
  have hq1 : b2 = false → q.num = z := fun e => mp.2.2.1 (by
    by_cases h : d < 0
    · rw [negB_pos h, e] at hb2; cases hb2
    · omega)
  have hq2 : b2 = true → q.num = -z := fun e => mp.2.2.2 (by
    by_cases h : d < 0
    · exact h
    · rw [negB_neg h, e] at hb2; cases hb2)
  obtain ⟨s, hs⟩ : ∃ s, d.sign = s := ⟨_, rfl⟩
  have hs0 : ¬ s = 0 := by rw [← hs]; exact fun h => h0 (Int.sign_eq_zero_iff_zero.1 h)
  have hs1 : (s == 0) = false := by simpa using hs0
  have HD := Lib.hid (And.intro hb1 (And.intro hb2 (And.intro hn (And.intro hd hs))))
  have HG := Lib.hid (And.intro hg (And.intro hgm hg0))
  have HZ := Lib.hid (And.intro hz (And.intro hzr (And.intro hy hyr)))
  have HQ := Lib.hid (And.intro hyd (And.intro hzm (And.intro hq1 hq2)))
  clear hb1 hb2 hn hd hs hg hgm hg0 hz hzr hy hyr hyd hzm hq1 hq2 mp hq h0
  have S := (((St.start w).alloc 30 [.bool b1, .slice p1 l1 K1] (w.heap.size)).alloc 30 [.bool b2, .slice p2 l2 K2] (w.heap.size + 1)).alloc 32 [.bool false, .slice none 0 0, .slice none 0 0] (w.heap.size + 1 + 1)
  try simp only [List.cons_append, List.nil_append] at S
  replace n1 := n1.hold S.hold; replace n2 := n2.hold S.hold
  have c0_0 := S.c 0 0 rfl rfl; have c0_1 := S.c 0 1 rfl rfl; have c1_0 := S.c 1 0 rfl rfl; have c1_1 := S.c 1 1 rfl rfl; obtain ⟨c2_0, c2_1, c2_2⟩ := S.c3 2 rfl
  go_enter Try.func30, Try.ntmps30
  go_wp2_with fail; clear c0_0 c0_1 c1_0 c1_1 c2_0 c2_1 c2_2
  refine (S.call (wsign_any ⟨_, _, _, by rw [HD.out.2.1], n2⟩ HD.out.2.2.2.1 HD.out.2.2.2.2)).mono ?_
  clear S
  rintro e w1 ⟨rfl, S, H⟩
  replace n1 := n1.hold H; replace n2 := n2.hold H
  clear H; have c0_0 := S.c 0 0 rfl rfl; have c0_1 := S.c 0 1 rfl rfl; have c1_0 := S.c 1 0 rfl rfl; have c1_1 := S.c 1 1 rfl rfl; obtain ⟨c2_0, c2_1, c2_2⟩ := S.c3 2 rfl
  go_upto_region 3 with fail
  clear c0_0 c0_1 c1_0 c1_1 c2_0 c2_1 c2_2
  have HH := Hold.drew w1
  replace n1 := n1.hold HH; replace n2 := n2.hold HH
  replace S := S.drew
  refine wp_region_held_drew (S := fun W => W.cell? ⟨w.heap.size, 0, none⟩ = some (.bool b1) ∧ W.cell? ⟨w.heap.size, 1, none⟩ = some (.slice p1 l1 K1) ∧ W.cell? ⟨w.heap.size + 1, 0, none⟩ = some (.bool b2) ∧ W.cell? ⟨w.heap.size + 1, 1, none⟩ = some (.slice p2 l2 K2)) (by kernel_rfl) ⟨(S.c 0 0 rfl rfl), ⟨(S.c 0 1 rfl rfl), ⟨(S.c 1 0 rfl rfl), (S.c 1 1 rfl rfl)⟩⟩⟩ (fun hS => ?_)
  generalize w1.drew = w2 at S n1 n2 HH hS ⊢
  refine tk 0 hS ?_
  refine tk 2 hS ?_
  refine rd 1 fun KK hKK => ?_
  go_simp; clear hS
  refine (S.call (wcheck_any ⟨_, _, _, by rw [HD.out.1], n1⟩ HD.out.2.2.1)).mono ?_
  clear S
  rintro e w3 ⟨rfl, S, H⟩
  replace n1 := n1.hold H; replace n2 := n2.hold H; replace HH := HH.trans H; clear H
  go_wp2_with fail
  refine ho hKK ⟨(S.c 0 0 rfl rfl), ⟨(S.c 0 1 rfl rfl), ⟨(S.c 1 0 rfl rfl), (S.c 1 1 rfl rfl)⟩⟩⟩ fun hS => ?_
  clear hKK KK
  refine rd 3 fun KK hKK => ?_
  go_simp; clear hS
  refine (S.call (wcheck_any ⟨_, _, _, by rw [HD.out.2.1], n2⟩ HD.out.2.2.2.1)).mono ?_
  clear S
  rintro e w4 ⟨rfl, S, H⟩
  replace n1 := n1.hold H; replace n2 := n2.hold H; replace HH := HH.trans H; clear H
  go_wp2_with fail
  refine ho hKK ⟨(S.c 0 0 rfl rfl), ⟨(S.c 0 1 rfl rfl), ⟨(S.c 1 0 rfl rfl), (S.c 1 1 rfl rfl)⟩⟩⟩ fun hS => ?_
  clear hKK KK
  refine rd 4 fun KK hKK => ?_
  go_simp; clear hS
  have H := S.hnew 33 [.int .i64 0, .int .i64 0]
  replace S := S.al 33 [.int .i64 0, .int .i64 0] (w4.heap.size)
  replace n1 := n1.hold H; replace n2 := n2.hold H; replace HH := HH.trans H; clear H
  refine ho hKK ⟨(S.c 0 0 rfl rfl), ⟨(S.c 0 1 rfl rfl), ⟨(S.c 1 0 rfl rfl), (S.c 1 1 rfl rfl)⟩⟩⟩ fun hS => ?_
  generalize (w4.alloc (.cells #[.int .i64 0, .int .i64 0] 33)) = w5 at S n1 n2 HH hS ⊢
  clear hKK KK
  refine rd 5 fun KK hKK => ?_
  go_simp; clear hS
  refine (S.call (or_two S 3 rfl)).mono ?_
  clear S
  rintro e w6 ⟨rfl, S, H⟩
  replace n1 := n1.hold H; replace n2 := n2.hold H; replace HH := HH.trans H; clear H
  go_wp2_with fail
  refine ho hKK ⟨(S.c 0 0 rfl rfl), ⟨(S.c 0 1 rfl rfl), ⟨(S.c 1 0 rfl rfl), (S.c 1 1 rfl rfl)⟩⟩⟩ fun hS => ?_
  clear hKK KK
  refine rd 6 fun KK hKK => ?_
  go_simp
  refine ho hKK hS fun hS => ?_
  clear hKK KK
  refine wpAnyH_done (by kernel_rfl) ?_ _
  clear hS HH; have c0_0 := S.c 0 0 rfl rfl; have c0_1 := S.c 0 1 rfl rfl; have c1_0 := S.c 1 0 rfl rfl; have c1_1 := S.c 1 1 rfl rfl; obtain ⟨c2_0, c2_1, c2_2⟩ := S.c3 2 rfl; go_wp2_with fail; clear c0_0 c0_1 c1_0 c1_1 c2_0 c2_1 c2_2
  refine (S.call (gcd_any n1 n2 HD.out.2.2.1 HD.out.2.2.2.1)).mono ?_
  clear S
  rintro e w7 ⟨⟨vg, rfl, ng⟩, S, H⟩
  replace n1 := n1.hold H; replace n2 := n2.hold H
  clear H; have c0_0 := S.c 0 0 rfl rfl; have c0_1 := S.c 0 1 rfl rfl; have c1_0 := S.c 1 0 rfl rfl; have c1_1 := S.c 1 1 rfl rfl; obtain ⟨c2_0, c2_1, c2_2⟩ := S.c3 2 rfl
  rw [HG.out.1] at ng
  go_wp2_with fail; clear c0_0 c0_1 c1_0 c1_1 c2_0 c2_1 c2_2
  refine (S.call (wnat_any ng HG.out.2.1 (g : Int) rfl)).mono ?_
  clear S
  rintro e w8 ⟨⟨_, rfl, pc, lc, Kc, rfl, nc⟩, S, H⟩
  refine iv3 H n1 n2 ng ?_; clear n1 n2 ng; intro n1 n2 ng
  clear H; have c0_0 := S.c 0 0 rfl rfl; have c0_1 := S.c 0 1 rfl rfl; have c1_0 := S.c 1 0 rfl rfl; have c1_1 := S.c 1 1 rfl rfl; obtain ⟨c2_0, c2_1, c2_2⟩ := S.c3 2 rfl
  have H := S.hnew 30 [.bool (negB (g : Int)), .slice pc lc Kc]
  replace S := S.al 30 [.bool (negB (g : Int)), .slice pc lc Kc] (w8.heap.size)
  refine iv4 H n1 n2 ng nc ?_; clear n1 n2 ng nc; intro n1 n2 ng nc
  clear H; clear c0_0 c0_1 c1_0 c1_1 c2_0 c2_1 c2_2; have c0_0 := S.c 0 0 rfl rfl; have c0_1 := S.c 0 1 rfl rfl; have c1_0 := S.c 1 0 rfl rfl; have c1_1 := S.c 1 1 rfl rfl; obtain ⟨c2_0, c2_1, c2_2⟩ := S.c3 2 rfl; have c4_0 := S.c 4 0 rfl rfl; have c4_1 := S.c 4 1 rfl rfl; go_wp2_with fail; clear c0_0 c0_1 c1_0 c1_1 c2_0 c2_1 c2_2 c4_0 c4_1
  refine (S.call (wdiv_to ⟨_, _, _, by rw [HD.out.1], n1⟩ ⟨_, _, _, rfl, nc⟩ HD.out.2.2.1 HG.out.2.1 z zr HG.out.2.2 HZ.out.1 HZ.out.2.1)).mono ?_
  clear S
  rintro e w9 ⟨⟨_, _, rfl, ⟨pz, lz, Kz, rfl, nz⟩, ⟨pr, lr, Kr, rfl, nr⟩⟩, S, H⟩
  refine iv4 H n1 n2 ng nc ?_; clear n1 n2 ng nc; intro n1 n2 ng nc
  clear H; have c0_0 := S.c 0 0 rfl rfl; have c0_1 := S.c 0 1 rfl rfl; have c1_0 := S.c 1 0 rfl rfl; have c1_1 := S.c 1 1 rfl rfl; obtain ⟨c2_0, c2_1, c2_2⟩ := S.c3 2 rfl; have c4_0 := S.c 4 0 rfl rfl; have c4_1 := S.c 4 1 rfl rfl
  have H := S.hnew 30 [.bool (negB z), .slice pz lz Kz]
  replace S := S.al 30 [.bool (negB z), .slice pz lz Kz] (w9.heap.size)
  refine iv5 H n1 n2 ng nc nz ?_; clear n1 n2 ng nc nz; intro n1 n2 ng nc nz
  clear H
  have H := S.hnew 30 [.bool (negB zr), .slice pr lr Kr]
  replace S := S.al 30 [.bool (negB zr), .slice pr lr Kr] (w9.heap.size + 1)
  refine iv5 H n1 n2 ng nc nz ?_; clear n1 n2 ng nc nz; intro n1 n2 ng nc nz
  clear H; clear c0_0 c0_1 c1_0 c1_1 c2_0 c2_1 c2_2 c4_0 c4_1; have c0_0 := S.c 0 0 rfl rfl; have c0_1 := S.c 0 1 rfl rfl; have c1_0 := S.c 1 0 rfl rfl; have c1_1 := S.c 1 1 rfl rfl; obtain ⟨c2_0, c2_1, c2_2⟩ := S.c3 2 rfl; have c4_0 := S.c 4 0 rfl rfl; have c4_1 := S.c 4 1 rfl rfl; have c5_0 := S.c 5 0 rfl rfl; have c5_1 := S.c 5 1 rfl rfl
  go_upto_region 8 with fail
  clear c0_0 c0_1 c1_0 c1_1 c2_0 c2_1 c2_2 c4_0 c4_1 c5_0 c5_1
  generalize (.tuple #[.agg #[.bool (negB z), .slice pz lz Kz], .agg #[.bool (negB zr), .slice pr lr Kr], .int .i64 0] : Value) = x1
  generalize (.agg #[.bool (negB z), .slice pz lz Kz] : Value) = x2
  generalize (.agg #[.bool (negB zr), .slice pr lr Kr] : Value) = x3
  generalize (.agg #[.bool b1, .slice p1 l1 K1] : Value) = x4
  generalize ((w9.alloc (.cells #[.bool (negB z), .slice pz lz Kz] 30)).alloc (.cells #[.bool (negB zr), .slice pr lr Kr] 30)) = w10 at S n1 n2 ng nc nz ⊢
  go_cut [11] (fun s11 wx => ∃ g11 py ly Ky, s11 = .pointer (some ⟨g11, 0, none⟩) ∧ St w wx [(w.heap.size, 30, [.bool b1, .slice p1 l1 K1]), (w.heap.size + 1, 30, [.bool b2, .slice p2 l2 K2]), (w.heap.size + 1 + 1, 32, [.bool false, .slice none 0 0, .slice none 0 0]), (w4.heap.size, 33, [.int .i64 0, .int .i64 0]), (w8.heap.size, 30, [.bool (negB (g : Int)), .slice pc lc Kc]), (w9.heap.size, 30, [.bool (negB z), .slice pz lz Kz]), (w9.heap.size + 1, 30, [.bool (negB zr), .slice pr lr Kr]), (g11, 30, [.bool (negB y), .slice py ly Ky])] ∧ IsNat wx (.slice py ly Ky) y.natAbs ∧ Hold w10 wx)
  case first =>
    have HH := Hold.drew w10
    refine iv5 HH n1 n2 ng nc nz ?_; clear n1 n2 ng nc nz; intro n1 n2 ng nc nz
    replace S := S.drew
    refine wp_region_held_drew (S := fun W => W.cell? ⟨w.heap.size + 1, 0, none⟩ = some (.bool b2) ∧ W.cell? ⟨w.heap.size + 1, 1, none⟩ = some (.slice p2 l2 K2) ∧ W.cell? ⟨w8.heap.size, 0, none⟩ = some (.bool (negB (g : Int))) ∧ W.cell? ⟨w8.heap.size, 1, none⟩ = some (.slice pc lc Kc)) (by kernel_rfl) ⟨(S.c 1 0 rfl rfl), ⟨(S.c 1 1 rfl rfl), ⟨(S.c 4 0 rfl rfl), (S.c 4 1 rfl rfl)⟩⟩⟩ (fun hS => ?_)
    generalize w10.drew = w11 at S n1 n2 ng nc nz HH hS ⊢
    refine tk 0 hS ?_
    refine tk 2 hS ?_
    refine wpAnyH_ready (rs := [1, 8, 9]) (by kernel_rfl) (by simp) (AllReadyH.cons (opOf rfl) (fun KK hKK => ?_) (AllReadyH.cons (opOf rfl) (fun KK hKK => ?_) (AllReadyH.cons (opOf rfl) (fun KK hKK => ?_) AllReadyH.nil)))
    ·
      go_simp; clear hS
      refine (S.call (wabs_any ⟨_, _, _, by rw [HD.out.2.1], n2⟩ HD.out.2.2.2.1 ((d.natAbs : Nat) : Int) rfl)).mono ?_
      clear S
      rintro e w12 ⟨⟨_, rfl, pa, la, Ka, rfl, na⟩, S, H⟩
      refine iv5 H n1 n2 ng nc nz ?_; clear n1 n2 ng nc nz; intro n1 n2 ng nc nz; replace HH := HH.trans H; clear H
      go_wp2_with fail
      refine ho hKK ⟨(S.c 1 0 rfl rfl), ⟨(S.c 1 1 rfl rfl), ⟨(S.c 4 0 rfl rfl), (S.c 4 1 rfl rfl)⟩⟩⟩ fun hS => ?_
      clear hKK KK
      refine wpAnyH_ready (rs := [3, 8, 9]) (by kernel_rfl) (by simp) (AllReadyH.cons (opOf rfl) (fun KK hKK => ?_) (AllReadyH.cons (opOf rfl) (fun KK hKK => ?_) (AllReadyH.cons (opOf rfl) (fun KK hKK => ?_) AllReadyH.nil)))
      ·
        go_simp; clear hS
        refine (S.call (wdiv_to ⟨_, _, _, rfl, na⟩ ⟨_, _, _, rfl, nc⟩ HD.out.2.2.2.1 HG.out.2.1 y yr HG.out.2.2 HZ.out.2.2.1 HZ.out.2.2.2)).mono ?_
        clear S
        rintro e w13 ⟨⟨_, _, rfl, ⟨py, ly, Ky, rfl, ny⟩, ⟨pv, lv, Kv, rfl, nv⟩⟩, S, H⟩
        refine iv6 H n1 n2 ng nc nz na ?_; clear n1 n2 ng nc nz na; intro n1 n2 ng nc nz na; replace HH := HH.trans H; clear H
        go_wp2_with fail
        refine ho hKK ⟨(S.c 1 0 rfl rfl), ⟨(S.c 1 1 rfl rfl), ⟨(S.c 4 0 rfl rfl), (S.c 4 1 rfl rfl)⟩⟩⟩ fun hS => ?_
        clear hKK KK
        refine tk 4 hS ?_
        refine tk 5 hS ?_
        refine tk 6 hS ?_
        refine tk 7 hS ?_
        refine wpAnyH_ready (rs := [8, 9]) (by kernel_rfl) (by simp) (AllReadyH.cons (opOf rfl) (fun KK hKK => ?_) (AllReadyH.cons (opOf rfl) (fun KK hKK => ?_) AllReadyH.nil))
        ·
          go_simp; clear hS
          have H := S.hnew 30 [.bool false, .slice none 0 0]
          replace S := S.al 30 [.bool false, .slice none 0 0] (w13.heap.size)
          refine iv7 H n1 n2 ng nc nz na ny ?_; clear n1 n2 ng nc nz na ny; intro n1 n2 ng nc nz na ny; replace HH := HH.trans H; clear H
          refine ho hKK ⟨(S.c 1 0 rfl rfl), ⟨(S.c 1 1 rfl rfl), ⟨(S.c 4 0 rfl rfl), (S.c 4 1 rfl rfl)⟩⟩⟩ fun hS => ?_
          generalize (w13.alloc (.cells #[.bool false, .slice none 0 0] 30)) = w14 at S n1 n2 ng nc nz na ny HH hS ⊢
          clear hKK KK
          refine rd 9 fun KK hKK => ?_
          go_simp; clear hS
          have H := S.hnew 30 [.bool false, .slice none 0 0]
          replace S := S.al 30 [.bool false, .slice none 0 0] (w14.heap.size)
          refine iv7 H n1 n2 ng nc nz na ny ?_; clear n1 n2 ng nc nz na ny; intro n1 n2 ng nc nz na ny; replace HH := HH.trans H; clear H
          refine ho hKK ⟨(S.c 1 0 rfl rfl), ⟨(S.c 1 1 rfl rfl), ⟨(S.c 4 0 rfl rfl), (S.c 4 1 rfl rfl)⟩⟩⟩ fun hS => ?_
          generalize (w14.alloc (.cells #[.bool false, .slice none 0 0] 30)) = w15 at S n1 n2 ng nc nz na ny HH hS ⊢
          clear hKK KK
          refine rd 10 fun KK hKK => ?_
          have c0 := S.c 7 0 rfl rfl; have f0 := S.f 7 0 rfl; have c1 := S.c 7 1 rfl rfl; have f1 := S.f 7 1 rfl; go_simp; clear hS c0 f0 c1 f1
          have H := S.hset 7 0 (.bool (negB y)) rfl rfl (by intro q n e; cases e)
          replace S := S.set 7 0 (.bool (negB y)) rfl
          refine iv7 H n1 n2 ng nc nz na ny ?_; clear n1 n2 ng nc nz na ny; intro n1 n2 ng nc nz na ny; replace HH := HH.trans H; clear H
          have H := S.hset 7 1 (.slice py ly Ky) rfl rfl (by intro q n e; cases e)
          replace S := S.set 7 1 (.slice py ly Ky) rfl
          refine iv7 H n1 n2 ng nc nz na ny ?_; clear n1 n2 ng nc nz na ny; intro n1 n2 ng nc nz na ny; replace HH := HH.trans H; clear H
          refine ho hKK ⟨(S.c 1 0 rfl rfl), ⟨(S.c 1 1 rfl rfl), ⟨(S.c 4 0 rfl rfl), (S.c 4 1 rfl rfl)⟩⟩⟩ fun hS => ?_
          generalize ((w15.setCell ⟨w13.heap.size, 0, none⟩ (.bool (negB y))).setCell ⟨w13.heap.size, 1, none⟩ (.slice py ly Ky)) = w16 at S n1 n2 ng nc nz na ny HH hS ⊢
          clear hKK KK
          refine rd 11 fun KK hKK => ?_
          have c0 := S.c 8 0 rfl rfl; have f0 := S.f 8 0 rfl; have c1 := S.c 8 1 rfl rfl; have f1 := S.f 8 1 rfl; go_simp; clear hS c0 f0 c1 f1
          have H := S.hset 8 0 (.bool (negB yr)) rfl rfl (by intro q n e; cases e)
          replace S := S.set 8 0 (.bool (negB yr)) rfl
          refine iv7 H n1 n2 ng nc nz na ny ?_; clear n1 n2 ng nc nz na ny; intro n1 n2 ng nc nz na ny; replace HH := HH.trans H; clear H
          have H := S.hset 8 1 (.slice pv lv Kv) rfl rfl (by intro q n e; cases e)
          replace S := S.set 8 1 (.slice pv lv Kv) rfl
          refine iv7 H n1 n2 ng nc nz na ny ?_; clear n1 n2 ng nc nz na ny; intro n1 n2 ng nc nz na ny; replace HH := HH.trans H; clear H
          refine ho hKK ⟨(S.c 1 0 rfl rfl), ⟨(S.c 1 1 rfl rfl), ⟨(S.c 4 0 rfl rfl), (S.c 4 1 rfl rfl)⟩⟩⟩ fun hS => ?_
          generalize ((w16.setCell ⟨w14.heap.size, 0, none⟩ (.bool (negB yr))).setCell ⟨w14.heap.size, 1, none⟩ (.slice pv lv Kv)) = w17 at S n1 n2 ng nc nz na ny HH hS ⊢
          clear hKK KK
          refine rd 12 fun KK hKK => ?_
          go_simp
          refine ho hKK hS fun hS => ?_
          clear hKK KK
          refine wpAnyH_done (by kernel_rfl) ?_ _
          go_wp2_with fail
          go_meet
          case rel => exact ⟨w13.heap.size, py, ly, Ky, rfl, S.sub (.cons_cons _ (.cons_cons _ (.cons_cons _ (.cons_cons _ (.cons_cons _ (.cons_cons _ (.cons_cons _ (.cons_cons _ (.cons _ (.slnil)))))))))), ny, HH⟩
        ·
          go_simp; clear hS
          have H := S.hnew 30 [.bool false, .slice none 0 0]
          replace S := S.al 30 [.bool false, .slice none 0 0] (w13.heap.size)
          refine iv7 H n1 n2 ng nc nz na ny ?_; clear n1 n2 ng nc nz na ny; intro n1 n2 ng nc nz na ny; replace HH := HH.trans H; clear H
          refine ho hKK ⟨(S.c 1 0 rfl rfl), ⟨(S.c 1 1 rfl rfl), ⟨(S.c 4 0 rfl rfl), (S.c 4 1 rfl rfl)⟩⟩⟩ fun hS => ?_
          generalize (w13.alloc (.cells #[.bool false, .slice none 0 0] 30)) = w18 at S n1 n2 ng nc nz na ny HH hS ⊢
          clear hKK KK
          refine rd 8 fun KK hKK => ?_
          go_simp; clear hS
          have H := S.hnew 30 [.bool false, .slice none 0 0]
          replace S := S.al 30 [.bool false, .slice none 0 0] (w18.heap.size)
          refine iv7 H n1 n2 ng nc nz na ny ?_; clear n1 n2 ng nc nz na ny; intro n1 n2 ng nc nz na ny; replace HH := HH.trans H; clear H
          refine ho hKK ⟨(S.c 1 0 rfl rfl), ⟨(S.c 1 1 rfl rfl), ⟨(S.c 4 0 rfl rfl), (S.c 4 1 rfl rfl)⟩⟩⟩ fun hS => ?_
          generalize (w18.alloc (.cells #[.bool false, .slice none 0 0] 30)) = w19 at S n1 n2 ng nc nz na ny HH hS ⊢
          clear hKK KK
          refine rd 10 fun KK hKK => ?_
          have c0 := S.c 8 0 rfl rfl; have f0 := S.f 8 0 rfl; have c1 := S.c 8 1 rfl rfl; have f1 := S.f 8 1 rfl; go_simp; clear hS c0 f0 c1 f1
          have H := S.hset 8 0 (.bool (negB y)) rfl rfl (by intro q n e; cases e)
          replace S := S.set 8 0 (.bool (negB y)) rfl
          refine iv7 H n1 n2 ng nc nz na ny ?_; clear n1 n2 ng nc nz na ny; intro n1 n2 ng nc nz na ny; replace HH := HH.trans H; clear H
          have H := S.hset 8 1 (.slice py ly Ky) rfl rfl (by intro q n e; cases e)
          replace S := S.set 8 1 (.slice py ly Ky) rfl
          refine iv7 H n1 n2 ng nc nz na ny ?_; clear n1 n2 ng nc nz na ny; intro n1 n2 ng nc nz na ny; replace HH := HH.trans H; clear H
          refine ho hKK ⟨(S.c 1 0 rfl rfl), ⟨(S.c 1 1 rfl rfl), ⟨(S.c 4 0 rfl rfl), (S.c 4 1 rfl rfl)⟩⟩⟩ fun hS => ?_
          generalize ((w19.setCell ⟨w18.heap.size, 0, none⟩ (.bool (negB y))).setCell ⟨w18.heap.size, 1, none⟩ (.slice py ly Ky)) = w20 at S n1 n2 ng nc nz na ny HH hS ⊢
          clear hKK KK
          refine rd 11 fun KK hKK => ?_
          have c0 := S.c 7 0 rfl rfl; have f0 := S.f 7 0 rfl; have c1 := S.c 7 1 rfl rfl; have f1 := S.f 7 1 rfl; go_simp; clear hS c0 f0 c1 f1
          have H := S.hset 7 0 (.bool (negB yr)) rfl rfl (by intro q n e; cases e)
          replace S := S.set 7 0 (.bool (negB yr)) rfl
          refine iv7 H n1 n2 ng nc nz na ny ?_; clear n1 n2 ng nc nz na ny; intro n1 n2 ng nc nz na ny; replace HH := HH.trans H; clear H
          have H := S.hset 7 1 (.slice pv lv Kv) rfl rfl (by intro q n e; cases e)
          replace S := S.set 7 1 (.slice pv lv Kv) rfl
          refine iv7 H n1 n2 ng nc nz na ny ?_; clear n1 n2 ng nc nz na ny; intro n1 n2 ng nc nz na ny; replace HH := HH.trans H; clear H
          refine ho hKK ⟨(S.c 1 0 rfl rfl), ⟨(S.c 1 1 rfl rfl), ⟨(S.c 4 0 rfl rfl), (S.c 4 1 rfl rfl)⟩⟩⟩ fun hS => ?_
          generalize ((w20.setCell ⟨w13.heap.size, 0, none⟩ (.bool (negB yr))).setCell ⟨w13.heap.size, 1, none⟩ (.slice pv lv Kv)) = w21 at S n1 n2 ng nc nz na ny HH hS ⊢
          clear hKK KK
          refine rd 12 fun KK hKK => ?_
          go_simp
          refine ho hKK hS fun hS => ?_
          clear hKK KK
          refine wpAnyH_done (by kernel_rfl) ?_ _
          go_wp2_with fail
          go_meet
          case rel => exact ⟨w18.heap.size, py, ly, Ky, rfl, S.sub (.cons_cons _ (.cons_cons _ (.cons_cons _ (.cons_cons _ (.cons_cons _ (.cons_cons _ (.cons_cons _ (.cons _ (.cons_cons _ (.slnil)))))))))), ny, HH⟩
      ·
        go_simp; clear hS
        have H := S.hnew 30 [.bool false, .slice none 0 0]
        replace S := S.al 30 [.bool false, .slice none 0 0] (w12.heap.size)
        refine iv6 H n1 n2 ng nc nz na ?_; clear n1 n2 ng nc nz na; intro n1 n2 ng nc nz na; replace HH := HH.trans H; clear H
        refine ho hKK ⟨(S.c 1 0 rfl rfl), ⟨(S.c 1 1 rfl rfl), ⟨(S.c 4 0 rfl rfl), (S.c 4 1 rfl rfl)⟩⟩⟩ fun hS => ?_
        generalize (w12.alloc (.cells #[.bool false, .slice none 0 0] 30)) = w22 at S n1 n2 ng nc nz na HH hS ⊢
        clear hKK KK
        refine wpAnyH_ready (rs := [3, 9]) (by kernel_rfl) (by simp) (AllReadyH.cons (opOf rfl) (fun KK hKK => ?_) (AllReadyH.cons (opOf rfl) (fun KK hKK => ?_) AllReadyH.nil))
        ·
          go_simp; clear hS
          refine (S.call (wdiv_to ⟨_, _, _, rfl, na⟩ ⟨_, _, _, rfl, nc⟩ HD.out.2.2.2.1 HG.out.2.1 y yr HG.out.2.2 HZ.out.2.2.1 HZ.out.2.2.2)).mono ?_
          clear S
          rintro e w23 ⟨⟨_, _, rfl, ⟨py, ly, Ky, rfl, ny⟩, ⟨pv, lv, Kv, rfl, nv⟩⟩, S, H⟩
          refine iv6 H n1 n2 ng nc nz na ?_; clear n1 n2 ng nc nz na; intro n1 n2 ng nc nz na; replace HH := HH.trans H; clear H
          go_wp2_with fail
          refine ho hKK ⟨(S.c 1 0 rfl rfl), ⟨(S.c 1 1 rfl rfl), ⟨(S.c 4 0 rfl rfl), (S.c 4 1 rfl rfl)⟩⟩⟩ fun hS => ?_
          clear hKK KK
          refine tk 4 hS ?_
          refine tk 5 hS ?_
          refine tk 6 hS ?_
          refine tk 7 hS ?_
          refine rd 9 fun KK hKK => ?_
          go_simp; clear hS
          have H := S.hnew 30 [.bool false, .slice none 0 0]
          replace S := S.al 30 [.bool false, .slice none 0 0] (w23.heap.size)
          refine iv7 H n1 n2 ng nc nz na ny ?_; clear n1 n2 ng nc nz na ny; intro n1 n2 ng nc nz na ny; replace HH := HH.trans H; clear H
          refine ho hKK ⟨(S.c 1 0 rfl rfl), ⟨(S.c 1 1 rfl rfl), ⟨(S.c 4 0 rfl rfl), (S.c 4 1 rfl rfl)⟩⟩⟩ fun hS => ?_
          generalize (w23.alloc (.cells #[.bool false, .slice none 0 0] 30)) = w24 at S n1 n2 ng nc nz na ny HH hS ⊢
          clear hKK KK
          refine rd 10 fun KK hKK => ?_
          have c0 := S.c 7 0 rfl rfl; have f0 := S.f 7 0 rfl; have c1 := S.c 7 1 rfl rfl; have f1 := S.f 7 1 rfl; go_simp; clear hS c0 f0 c1 f1
          have H := S.hset 7 0 (.bool (negB y)) rfl rfl (by intro q n e; cases e)
          replace S := S.set 7 0 (.bool (negB y)) rfl
          refine iv7 H n1 n2 ng nc nz na ny ?_; clear n1 n2 ng nc nz na ny; intro n1 n2 ng nc nz na ny; replace HH := HH.trans H; clear H
          have H := S.hset 7 1 (.slice py ly Ky) rfl rfl (by intro q n e; cases e)
          replace S := S.set 7 1 (.slice py ly Ky) rfl
          refine iv7 H n1 n2 ng nc nz na ny ?_; clear n1 n2 ng nc nz na ny; intro n1 n2 ng nc nz na ny; replace HH := HH.trans H; clear H
          refine ho hKK ⟨(S.c 1 0 rfl rfl), ⟨(S.c 1 1 rfl rfl), ⟨(S.c 4 0 rfl rfl), (S.c 4 1 rfl rfl)⟩⟩⟩ fun hS => ?_
          generalize ((w24.setCell ⟨w12.heap.size, 0, none⟩ (.bool (negB y))).setCell ⟨w12.heap.size, 1, none⟩ (.slice py ly Ky)) = w25 at S n1 n2 ng nc nz na ny HH hS ⊢
          clear hKK KK
          refine rd 11 fun KK hKK => ?_
          have c0 := S.c 8 0 rfl rfl; have f0 := S.f 8 0 rfl; have c1 := S.c 8 1 rfl rfl; have f1 := S.f 8 1 rfl; go_simp; clear hS c0 f0 c1 f1
          have H := S.hset 8 0 (.bool (negB yr)) rfl rfl (by intro q n e; cases e)
          replace S := S.set 8 0 (.bool (negB yr)) rfl
          refine iv7 H n1 n2 ng nc nz na ny ?_; clear n1 n2 ng nc nz na ny; intro n1 n2 ng nc nz na ny; replace HH := HH.trans H; clear H
          have H := S.hset 8 1 (.slice pv lv Kv) rfl rfl (by intro q n e; cases e)
          replace S := S.set 8 1 (.slice pv lv Kv) rfl
          refine iv7 H n1 n2 ng nc nz na ny ?_; clear n1 n2 ng nc nz na ny; intro n1 n2 ng nc nz na ny; replace HH := HH.trans H; clear H
          refine ho hKK ⟨(S.c 1 0 rfl rfl), ⟨(S.c 1 1 rfl rfl), ⟨(S.c 4 0 rfl rfl), (S.c 4 1 rfl rfl)⟩⟩⟩ fun hS => ?_
          generalize ((w25.setCell ⟨w23.heap.size, 0, none⟩ (.bool (negB yr))).setCell ⟨w23.heap.size, 1, none⟩ (.slice pv lv Kv)) = w26 at S n1 n2 ng nc nz na ny HH hS ⊢
          clear hKK KK
          refine rd 12 fun KK hKK => ?_
          go_simp
          refine ho hKK hS fun hS => ?_
          clear hKK KK
          refine wpAnyH_done (by kernel_rfl) ?_ _
          go_wp2_with fail
          go_meet
          case rel => exact ⟨w12.heap.size, py, ly, Ky, rfl, S.sub (.cons_cons _ (.cons_cons _ (.cons_cons _ (.cons_cons _ (.cons_cons _ (.cons_cons _ (.cons_cons _ (.cons_cons _ (.cons _ (.slnil)))))))))), ny, HH⟩
        ·
          go_simp; clear hS
          have H := S.hnew 30 [.bool false, .slice none 0 0]
          replace S := S.al 30 [.bool false, .slice none 0 0] (w22.heap.size)
          refine iv6 H n1 n2 ng nc nz na ?_; clear n1 n2 ng nc nz na; intro n1 n2 ng nc nz na; replace HH := HH.trans H; clear H
          refine ho hKK ⟨(S.c 1 0 rfl rfl), ⟨(S.c 1 1 rfl rfl), ⟨(S.c 4 0 rfl rfl), (S.c 4 1 rfl rfl)⟩⟩⟩ fun hS => ?_
          generalize (w22.alloc (.cells #[.bool false, .slice none 0 0] 30)) = w27 at S n1 n2 ng nc nz na HH hS ⊢
          clear hKK KK
          refine rd 3 fun KK hKK => ?_
          go_simp; clear hS
          refine (S.call (wdiv_to ⟨_, _, _, rfl, na⟩ ⟨_, _, _, rfl, nc⟩ HD.out.2.2.2.1 HG.out.2.1 y yr HG.out.2.2 HZ.out.2.2.1 HZ.out.2.2.2)).mono ?_
          clear S
          rintro e w28 ⟨⟨_, _, rfl, ⟨py, ly, Ky, rfl, ny⟩, ⟨pv, lv, Kv, rfl, nv⟩⟩, S, H⟩
          refine iv6 H n1 n2 ng nc nz na ?_; clear n1 n2 ng nc nz na; intro n1 n2 ng nc nz na; replace HH := HH.trans H; clear H
          go_wp2_with fail
          refine ho hKK ⟨(S.c 1 0 rfl rfl), ⟨(S.c 1 1 rfl rfl), ⟨(S.c 4 0 rfl rfl), (S.c 4 1 rfl rfl)⟩⟩⟩ fun hS => ?_
          clear hKK KK
          refine tk 4 hS ?_
          refine tk 5 hS ?_
          refine tk 6 hS ?_
          refine tk 7 hS ?_
          refine rd 10 fun KK hKK => ?_
          have c0 := S.c 7 0 rfl rfl; have f0 := S.f 7 0 rfl; have c1 := S.c 7 1 rfl rfl; have f1 := S.f 7 1 rfl; go_simp; clear hS c0 f0 c1 f1
          have H := S.hset 7 0 (.bool (negB y)) rfl rfl (by intro q n e; cases e)
          replace S := S.set 7 0 (.bool (negB y)) rfl
          refine iv7 H n1 n2 ng nc nz na ny ?_; clear n1 n2 ng nc nz na ny; intro n1 n2 ng nc nz na ny; replace HH := HH.trans H; clear H
          have H := S.hset 7 1 (.slice py ly Ky) rfl rfl (by intro q n e; cases e)
          replace S := S.set 7 1 (.slice py ly Ky) rfl
          refine iv7 H n1 n2 ng nc nz na ny ?_; clear n1 n2 ng nc nz na ny; intro n1 n2 ng nc nz na ny; replace HH := HH.trans H; clear H
          refine ho hKK ⟨(S.c 1 0 rfl rfl), ⟨(S.c 1 1 rfl rfl), ⟨(S.c 4 0 rfl rfl), (S.c 4 1 rfl rfl)⟩⟩⟩ fun hS => ?_
          generalize ((w28.setCell ⟨w12.heap.size, 0, none⟩ (.bool (negB y))).setCell ⟨w12.heap.size, 1, none⟩ (.slice py ly Ky)) = w29 at S n1 n2 ng nc nz na ny HH hS ⊢
          clear hKK KK
          refine rd 11 fun KK hKK => ?_
          have c0 := S.c 8 0 rfl rfl; have f0 := S.f 8 0 rfl; have c1 := S.c 8 1 rfl rfl; have f1 := S.f 8 1 rfl; go_simp; clear hS c0 f0 c1 f1
          have H := S.hset 8 0 (.bool (negB yr)) rfl rfl (by intro q n e; cases e)
          replace S := S.set 8 0 (.bool (negB yr)) rfl
          refine iv7 H n1 n2 ng nc nz na ny ?_; clear n1 n2 ng nc nz na ny; intro n1 n2 ng nc nz na ny; replace HH := HH.trans H; clear H
          have H := S.hset 8 1 (.slice pv lv Kv) rfl rfl (by intro q n e; cases e)
          replace S := S.set 8 1 (.slice pv lv Kv) rfl
          refine iv7 H n1 n2 ng nc nz na ny ?_; clear n1 n2 ng nc nz na ny; intro n1 n2 ng nc nz na ny; replace HH := HH.trans H; clear H
          refine ho hKK ⟨(S.c 1 0 rfl rfl), ⟨(S.c 1 1 rfl rfl), ⟨(S.c 4 0 rfl rfl), (S.c 4 1 rfl rfl)⟩⟩⟩ fun hS => ?_
          generalize ((w29.setCell ⟨w22.heap.size, 0, none⟩ (.bool (negB yr))).setCell ⟨w22.heap.size, 1, none⟩ (.slice pv lv Kv)) = w30 at S n1 n2 ng nc nz na ny HH hS ⊢
          clear hKK KK
          refine rd 12 fun KK hKK => ?_
          go_simp
          refine ho hKK hS fun hS => ?_
          clear hKK KK
          refine wpAnyH_done (by kernel_rfl) ?_ _
          go_wp2_with fail
          go_meet
          case rel => exact ⟨w12.heap.size, py, ly, Ky, rfl, S.sub (.cons_cons _ (.cons_cons _ (.cons_cons _ (.cons_cons _ (.cons_cons _ (.cons_cons _ (.cons_cons _ (.cons_cons _ (.cons _ (.slnil)))))))))), ny, HH⟩
      ·
        go_simp; clear hS
        have H := S.hnew 30 [.bool false, .slice none 0 0]
        replace S := S.al 30 [.bool false, .slice none 0 0] (w12.heap.size)
        refine iv6 H n1 n2 ng nc nz na ?_; clear n1 n2 ng nc nz na; intro n1 n2 ng nc nz na; replace HH := HH.trans H; clear H
        refine ho hKK ⟨(S.c 1 0 rfl rfl), ⟨(S.c 1 1 rfl rfl), ⟨(S.c 4 0 rfl rfl), (S.c 4 1 rfl rfl)⟩⟩⟩ fun hS => ?_
        generalize (w12.alloc (.cells #[.bool false, .slice none 0 0] 30)) = w31 at S n1 n2 ng nc nz na HH hS ⊢
        clear hKK KK
        refine wpAnyH_ready (rs := [3, 8]) (by kernel_rfl) (by simp) (AllReadyH.cons (opOf rfl) (fun KK hKK => ?_) (AllReadyH.cons (opOf rfl) (fun KK hKK => ?_) AllReadyH.nil))
        ·
          go_simp; clear hS
          refine (S.call (wdiv_to ⟨_, _, _, rfl, na⟩ ⟨_, _, _, rfl, nc⟩ HD.out.2.2.2.1 HG.out.2.1 y yr HG.out.2.2 HZ.out.2.2.1 HZ.out.2.2.2)).mono ?_
          clear S
          rintro e w32 ⟨⟨_, _, rfl, ⟨py, ly, Ky, rfl, ny⟩, ⟨pv, lv, Kv, rfl, nv⟩⟩, S, H⟩
          refine iv6 H n1 n2 ng nc nz na ?_; clear n1 n2 ng nc nz na; intro n1 n2 ng nc nz na; replace HH := HH.trans H; clear H
          go_wp2_with fail
          refine ho hKK ⟨(S.c 1 0 rfl rfl), ⟨(S.c 1 1 rfl rfl), ⟨(S.c 4 0 rfl rfl), (S.c 4 1 rfl rfl)⟩⟩⟩ fun hS => ?_
          clear hKK KK
          refine tk 4 hS ?_
          refine tk 5 hS ?_
          refine tk 6 hS ?_
          refine tk 7 hS ?_
          refine rd 8 fun KK hKK => ?_
          go_simp; clear hS
          have H := S.hnew 30 [.bool false, .slice none 0 0]
          replace S := S.al 30 [.bool false, .slice none 0 0] (w32.heap.size)
          refine iv7 H n1 n2 ng nc nz na ny ?_; clear n1 n2 ng nc nz na ny; intro n1 n2 ng nc nz na ny; replace HH := HH.trans H; clear H
          refine ho hKK ⟨(S.c 1 0 rfl rfl), ⟨(S.c 1 1 rfl rfl), ⟨(S.c 4 0 rfl rfl), (S.c 4 1 rfl rfl)⟩⟩⟩ fun hS => ?_
          generalize (w32.alloc (.cells #[.bool false, .slice none 0 0] 30)) = w33 at S n1 n2 ng nc nz na ny HH hS ⊢
          clear hKK KK
          refine rd 10 fun KK hKK => ?_
          have c0 := S.c 8 0 rfl rfl; have f0 := S.f 8 0 rfl; have c1 := S.c 8 1 rfl rfl; have f1 := S.f 8 1 rfl; go_simp; clear hS c0 f0 c1 f1
          have H := S.hset 8 0 (.bool (negB y)) rfl rfl (by intro q n e; cases e)
          replace S := S.set 8 0 (.bool (negB y)) rfl
          refine iv7 H n1 n2 ng nc nz na ny ?_; clear n1 n2 ng nc nz na ny; intro n1 n2 ng nc nz na ny; replace HH := HH.trans H; clear H
          have H := S.hset 8 1 (.slice py ly Ky) rfl rfl (by intro q n e; cases e)
          replace S := S.set 8 1 (.slice py ly Ky) rfl
          refine iv7 H n1 n2 ng nc nz na ny ?_; clear n1 n2 ng nc nz na ny; intro n1 n2 ng nc nz na ny; replace HH := HH.trans H; clear H
          refine ho hKK ⟨(S.c 1 0 rfl rfl), ⟨(S.c 1 1 rfl rfl), ⟨(S.c 4 0 rfl rfl), (S.c 4 1 rfl rfl)⟩⟩⟩ fun hS => ?_
          generalize ((w33.setCell ⟨w32.heap.size, 0, none⟩ (.bool (negB y))).setCell ⟨w32.heap.size, 1, none⟩ (.slice py ly Ky)) = w34 at S n1 n2 ng nc nz na ny HH hS ⊢
          clear hKK KK
          refine rd 11 fun KK hKK => ?_
          have c0 := S.c 7 0 rfl rfl; have f0 := S.f 7 0 rfl; have c1 := S.c 7 1 rfl rfl; have f1 := S.f 7 1 rfl; go_simp; clear hS c0 f0 c1 f1
          have H := S.hset 7 0 (.bool (negB yr)) rfl rfl (by intro q n e; cases e)
          replace S := S.set 7 0 (.bool (negB yr)) rfl
          refine iv7 H n1 n2 ng nc nz na ny ?_; clear n1 n2 ng nc nz na ny; intro n1 n2 ng nc nz na ny; replace HH := HH.trans H; clear H
          have H := S.hset 7 1 (.slice pv lv Kv) rfl rfl (by intro q n e; cases e)
          replace S := S.set 7 1 (.slice pv lv Kv) rfl
          refine iv7 H n1 n2 ng nc nz na ny ?_; clear n1 n2 ng nc nz na ny; intro n1 n2 ng nc nz na ny; replace HH := HH.trans H; clear H
          refine ho hKK ⟨(S.c 1 0 rfl rfl), ⟨(S.c 1 1 rfl rfl), ⟨(S.c 4 0 rfl rfl), (S.c 4 1 rfl rfl)⟩⟩⟩ fun hS => ?_
          generalize ((w34.setCell ⟨w12.heap.size, 0, none⟩ (.bool (negB yr))).setCell ⟨w12.heap.size, 1, none⟩ (.slice pv lv Kv)) = w35 at S n1 n2 ng nc nz na ny HH hS ⊢
          clear hKK KK
          refine rd 12 fun KK hKK => ?_
          go_simp
          refine ho hKK hS fun hS => ?_
          clear hKK KK
          refine wpAnyH_done (by kernel_rfl) ?_ _
          go_wp2_with fail
          go_meet
          case rel => exact ⟨w32.heap.size, py, ly, Ky, rfl, S.sub (.cons_cons _ (.cons_cons _ (.cons_cons _ (.cons_cons _ (.cons_cons _ (.cons_cons _ (.cons_cons _ (.cons _ (.cons_cons _ (.slnil)))))))))), ny, HH⟩
        ·
          go_simp; clear hS
          have H := S.hnew 30 [.bool false, .slice none 0 0]
          replace S := S.al 30 [.bool false, .slice none 0 0] (w31.heap.size)
          refine iv6 H n1 n2 ng nc nz na ?_; clear n1 n2 ng nc nz na; intro n1 n2 ng nc nz na; replace HH := HH.trans H; clear H
          refine ho hKK ⟨(S.c 1 0 rfl rfl), ⟨(S.c 1 1 rfl rfl), ⟨(S.c 4 0 rfl rfl), (S.c 4 1 rfl rfl)⟩⟩⟩ fun hS => ?_
          generalize (w31.alloc (.cells #[.bool false, .slice none 0 0] 30)) = w36 at S n1 n2 ng nc nz na HH hS ⊢
          clear hKK KK
          refine rd 3 fun KK hKK => ?_
          go_simp; clear hS
          refine (S.call (wdiv_to ⟨_, _, _, rfl, na⟩ ⟨_, _, _, rfl, nc⟩ HD.out.2.2.2.1 HG.out.2.1 y yr HG.out.2.2 HZ.out.2.2.1 HZ.out.2.2.2)).mono ?_
          clear S
          rintro e w37 ⟨⟨_, _, rfl, ⟨py, ly, Ky, rfl, ny⟩, ⟨pv, lv, Kv, rfl, nv⟩⟩, S, H⟩
          refine iv6 H n1 n2 ng nc nz na ?_; clear n1 n2 ng nc nz na; intro n1 n2 ng nc nz na; replace HH := HH.trans H; clear H
          go_wp2_with fail
          refine ho hKK ⟨(S.c 1 0 rfl rfl), ⟨(S.c 1 1 rfl rfl), ⟨(S.c 4 0 rfl rfl), (S.c 4 1 rfl rfl)⟩⟩⟩ fun hS => ?_
          clear hKK KK
          refine tk 4 hS ?_
          refine tk 5 hS ?_
          refine tk 6 hS ?_
          refine tk 7 hS ?_
          refine rd 10 fun KK hKK => ?_
          have c0 := S.c 8 0 rfl rfl; have f0 := S.f 8 0 rfl; have c1 := S.c 8 1 rfl rfl; have f1 := S.f 8 1 rfl; go_simp; clear hS c0 f0 c1 f1
          have H := S.hset 8 0 (.bool (negB y)) rfl rfl (by intro q n e; cases e)
          replace S := S.set 8 0 (.bool (negB y)) rfl
          refine iv7 H n1 n2 ng nc nz na ny ?_; clear n1 n2 ng nc nz na ny; intro n1 n2 ng nc nz na ny; replace HH := HH.trans H; clear H
          have H := S.hset 8 1 (.slice py ly Ky) rfl rfl (by intro q n e; cases e)
          replace S := S.set 8 1 (.slice py ly Ky) rfl
          refine iv7 H n1 n2 ng nc nz na ny ?_; clear n1 n2 ng nc nz na ny; intro n1 n2 ng nc nz na ny; replace HH := HH.trans H; clear H
          refine ho hKK ⟨(S.c 1 0 rfl rfl), ⟨(S.c 1 1 rfl rfl), ⟨(S.c 4 0 rfl rfl), (S.c 4 1 rfl rfl)⟩⟩⟩ fun hS => ?_
          generalize ((w37.setCell ⟨w31.heap.size, 0, none⟩ (.bool (negB y))).setCell ⟨w31.heap.size, 1, none⟩ (.slice py ly Ky)) = w38 at S n1 n2 ng nc nz na ny HH hS ⊢
          clear hKK KK
          refine rd 11 fun KK hKK => ?_
          have c0 := S.c 7 0 rfl rfl; have f0 := S.f 7 0 rfl; have c1 := S.c 7 1 rfl rfl; have f1 := S.f 7 1 rfl; go_simp; clear hS c0 f0 c1 f1
          have H := S.hset 7 0 (.bool (negB yr)) rfl rfl (by intro q n e; cases e)
          replace S := S.set 7 0 (.bool (negB yr)) rfl
          refine iv7 H n1 n2 ng nc nz na ny ?_; clear n1 n2 ng nc nz na ny; intro n1 n2 ng nc nz na ny; replace HH := HH.trans H; clear H
          have H := S.hset 7 1 (.slice pv lv Kv) rfl rfl (by intro q n e; cases e)
          replace S := S.set 7 1 (.slice pv lv Kv) rfl
          refine iv7 H n1 n2 ng nc nz na ny ?_; clear n1 n2 ng nc nz na ny; intro n1 n2 ng nc nz na ny; replace HH := HH.trans H; clear H
          refine ho hKK ⟨(S.c 1 0 rfl rfl), ⟨(S.c 1 1 rfl rfl), ⟨(S.c 4 0 rfl rfl), (S.c 4 1 rfl rfl)⟩⟩⟩ fun hS => ?_
          generalize ((w38.setCell ⟨w12.heap.size, 0, none⟩ (.bool (negB yr))).setCell ⟨w12.heap.size, 1, none⟩ (.slice pv lv Kv)) = w39 at S n1 n2 ng nc nz na ny HH hS ⊢
          clear hKK KK
          refine rd 12 fun KK hKK => ?_
          go_simp
          refine ho hKK hS fun hS => ?_
          clear hKK KK
          refine wpAnyH_done (by kernel_rfl) ?_ _
          go_wp2_with fail
          go_meet
          case rel => exact ⟨w31.heap.size, py, ly, Ky, rfl, S.sub (.cons_cons _ (.cons_cons _ (.cons_cons _ (.cons_cons _ (.cons_cons _ (.cons_cons _ (.cons_cons _ (.cons _ (.cons_cons _ (.slnil)))))))))), ny, HH⟩
    ·
      go_simp; clear hS
      have H := S.hnew 30 [.bool false, .slice none 0 0]
      replace S := S.al 30 [.bool false, .slice none 0 0] (w11.heap.size)
      refine iv5 H n1 n2 ng nc nz ?_; clear n1 n2 ng nc nz; intro n1 n2 ng nc nz; replace HH := HH.trans H; clear H
      refine ho hKK ⟨(S.c 1 0 rfl rfl), ⟨(S.c 1 1 rfl rfl), ⟨(S.c 4 0 rfl rfl), (S.c 4 1 rfl rfl)⟩⟩⟩ fun hS => ?_
      generalize (w11.alloc (.cells #[.bool false, .slice none 0 0] 30)) = w40 at S n1 n2 ng nc nz HH hS ⊢
      clear hKK KK
      refine wpAnyH_ready (rs := [1, 9]) (by kernel_rfl) (by simp) (AllReadyH.cons (opOf rfl) (fun KK hKK => ?_) (AllReadyH.cons (opOf rfl) (fun KK hKK => ?_) AllReadyH.nil))
      ·
        go_simp; clear hS
        refine (S.call (wabs_any ⟨_, _, _, by rw [HD.out.2.1], n2⟩ HD.out.2.2.2.1 ((d.natAbs : Nat) : Int) rfl)).mono ?_
        clear S
        rintro e w41 ⟨⟨_, rfl, pa, la, Ka, rfl, na⟩, S, H⟩
        refine iv5 H n1 n2 ng nc nz ?_; clear n1 n2 ng nc nz; intro n1 n2 ng nc nz; replace HH := HH.trans H; clear H
        go_wp2_with fail
        refine ho hKK ⟨(S.c 1 0 rfl rfl), ⟨(S.c 1 1 rfl rfl), ⟨(S.c 4 0 rfl rfl), (S.c 4 1 rfl rfl)⟩⟩⟩ fun hS => ?_
        clear hKK KK
        refine wpAnyH_ready (rs := [3, 9]) (by kernel_rfl) (by simp) (AllReadyH.cons (opOf rfl) (fun KK hKK => ?_) (AllReadyH.cons (opOf rfl) (fun KK hKK => ?_) AllReadyH.nil))
        ·
          go_simp; clear hS
          refine (S.call (wdiv_to ⟨_, _, _, rfl, na⟩ ⟨_, _, _, rfl, nc⟩ HD.out.2.2.2.1 HG.out.2.1 y yr HG.out.2.2 HZ.out.2.2.1 HZ.out.2.2.2)).mono ?_
          clear S
          rintro e w42 ⟨⟨_, _, rfl, ⟨py, ly, Ky, rfl, ny⟩, ⟨pv, lv, Kv, rfl, nv⟩⟩, S, H⟩
          refine iv6 H n1 n2 ng nc nz na ?_; clear n1 n2 ng nc nz na; intro n1 n2 ng nc nz na; replace HH := HH.trans H; clear H
          go_wp2_with fail
          refine ho hKK ⟨(S.c 1 0 rfl rfl), ⟨(S.c 1 1 rfl rfl), ⟨(S.c 4 0 rfl rfl), (S.c 4 1 rfl rfl)⟩⟩⟩ fun hS => ?_
          clear hKK KK
          refine tk 4 hS ?_
          refine tk 5 hS ?_
          refine tk 6 hS ?_
          refine tk 7 hS ?_
          refine rd 9 fun KK hKK => ?_
          go_simp; clear hS
          have H := S.hnew 30 [.bool false, .slice none 0 0]
          replace S := S.al 30 [.bool false, .slice none 0 0] (w42.heap.size)
          refine iv7 H n1 n2 ng nc nz na ny ?_; clear n1 n2 ng nc nz na ny; intro n1 n2 ng nc nz na ny; replace HH := HH.trans H; clear H
          refine ho hKK ⟨(S.c 1 0 rfl rfl), ⟨(S.c 1 1 rfl rfl), ⟨(S.c 4 0 rfl rfl), (S.c 4 1 rfl rfl)⟩⟩⟩ fun hS => ?_
          generalize (w42.alloc (.cells #[.bool false, .slice none 0 0] 30)) = w43 at S n1 n2 ng nc nz na ny HH hS ⊢
          clear hKK KK
          refine rd 10 fun KK hKK => ?_
          have c0 := S.c 7 0 rfl rfl; have f0 := S.f 7 0 rfl; have c1 := S.c 7 1 rfl rfl; have f1 := S.f 7 1 rfl; go_simp; clear hS c0 f0 c1 f1
          have H := S.hset 7 0 (.bool (negB y)) rfl rfl (by intro q n e; cases e)
          replace S := S.set 7 0 (.bool (negB y)) rfl
          refine iv7 H n1 n2 ng nc nz na ny ?_; clear n1 n2 ng nc nz na ny; intro n1 n2 ng nc nz na ny; replace HH := HH.trans H; clear H
          have H := S.hset 7 1 (.slice py ly Ky) rfl rfl (by intro q n e; cases e)
          replace S := S.set 7 1 (.slice py ly Ky) rfl
          refine iv7 H n1 n2 ng nc nz na ny ?_; clear n1 n2 ng nc nz na ny; intro n1 n2 ng nc nz na ny; replace HH := HH.trans H; clear H
          refine ho hKK ⟨(S.c 1 0 rfl rfl), ⟨(S.c 1 1 rfl rfl), ⟨(S.c 4 0 rfl rfl), (S.c 4 1 rfl rfl)⟩⟩⟩ fun hS => ?_
          generalize ((w43.setCell ⟨w11.heap.size, 0, none⟩ (.bool (negB y))).setCell ⟨w11.heap.size, 1, none⟩ (.slice py ly Ky)) = w44 at S n1 n2 ng nc nz na ny HH hS ⊢
          clear hKK KK
          refine rd 11 fun KK hKK => ?_
          have c0 := S.c 8 0 rfl rfl; have f0 := S.f 8 0 rfl; have c1 := S.c 8 1 rfl rfl; have f1 := S.f 8 1 rfl; go_simp; clear hS c0 f0 c1 f1
          have H := S.hset 8 0 (.bool (negB yr)) rfl rfl (by intro q n e; cases e)
          replace S := S.set 8 0 (.bool (negB yr)) rfl
          refine iv7 H n1 n2 ng nc nz na ny ?_; clear n1 n2 ng nc nz na ny; intro n1 n2 ng nc nz na ny; replace HH := HH.trans H; clear H
          have H := S.hset 8 1 (.slice pv lv Kv) rfl rfl (by intro q n e; cases e)
          replace S := S.set 8 1 (.slice pv lv Kv) rfl
          refine iv7 H n1 n2 ng nc nz na ny ?_; clear n1 n2 ng nc nz na ny; intro n1 n2 ng nc nz na ny; replace HH := HH.trans H; clear H
          refine ho hKK ⟨(S.c 1 0 rfl rfl), ⟨(S.c 1 1 rfl rfl), ⟨(S.c 4 0 rfl rfl), (S.c 4 1 rfl rfl)⟩⟩⟩ fun hS => ?_
          generalize ((w44.setCell ⟨w42.heap.size, 0, none⟩ (.bool (negB yr))).setCell ⟨w42.heap.size, 1, none⟩ (.slice pv lv Kv)) = w45 at S n1 n2 ng nc nz na ny HH hS ⊢
          clear hKK KK
          refine rd 12 fun KK hKK => ?_
          go_simp
          refine ho hKK hS fun hS => ?_
          clear hKK KK
          refine wpAnyH_done (by kernel_rfl) ?_ _
          go_wp2_with fail
          go_meet
          case rel => exact ⟨w11.heap.size, py, ly, Ky, rfl, S.sub (.cons_cons _ (.cons_cons _ (.cons_cons _ (.cons_cons _ (.cons_cons _ (.cons_cons _ (.cons_cons _ (.cons_cons _ (.cons _ (.slnil)))))))))), ny, HH⟩
        ·
          go_simp; clear hS
          have H := S.hnew 30 [.bool false, .slice none 0 0]
          replace S := S.al 30 [.bool false, .slice none 0 0] (w41.heap.size)
          refine iv6 H n1 n2 ng nc nz na ?_; clear n1 n2 ng nc nz na; intro n1 n2 ng nc nz na; replace HH := HH.trans H; clear H
          refine ho hKK ⟨(S.c 1 0 rfl rfl), ⟨(S.c 1 1 rfl rfl), ⟨(S.c 4 0 rfl rfl), (S.c 4 1 rfl rfl)⟩⟩⟩ fun hS => ?_
          generalize (w41.alloc (.cells #[.bool false, .slice none 0 0] 30)) = w46 at S n1 n2 ng nc nz na HH hS ⊢
          clear hKK KK
          refine rd 3 fun KK hKK => ?_
          go_simp; clear hS
          refine (S.call (wdiv_to ⟨_, _, _, rfl, na⟩ ⟨_, _, _, rfl, nc⟩ HD.out.2.2.2.1 HG.out.2.1 y yr HG.out.2.2 HZ.out.2.2.1 HZ.out.2.2.2)).mono ?_
          clear S
          rintro e w47 ⟨⟨_, _, rfl, ⟨py, ly, Ky, rfl, ny⟩, ⟨pv, lv, Kv, rfl, nv⟩⟩, S, H⟩
          refine iv6 H n1 n2 ng nc nz na ?_; clear n1 n2 ng nc nz na; intro n1 n2 ng nc nz na; replace HH := HH.trans H; clear H
          go_wp2_with fail
          refine ho hKK ⟨(S.c 1 0 rfl rfl), ⟨(S.c 1 1 rfl rfl), ⟨(S.c 4 0 rfl rfl), (S.c 4 1 rfl rfl)⟩⟩⟩ fun hS => ?_
          clear hKK KK
          refine tk 4 hS ?_
          refine tk 5 hS ?_
          refine tk 6 hS ?_
          refine tk 7 hS ?_
          refine rd 10 fun KK hKK => ?_
          have c0 := S.c 7 0 rfl rfl; have f0 := S.f 7 0 rfl; have c1 := S.c 7 1 rfl rfl; have f1 := S.f 7 1 rfl; go_simp; clear hS c0 f0 c1 f1
          have H := S.hset 7 0 (.bool (negB y)) rfl rfl (by intro q n e; cases e)
          replace S := S.set 7 0 (.bool (negB y)) rfl
          refine iv7 H n1 n2 ng nc nz na ny ?_; clear n1 n2 ng nc nz na ny; intro n1 n2 ng nc nz na ny; replace HH := HH.trans H; clear H
          have H := S.hset 7 1 (.slice py ly Ky) rfl rfl (by intro q n e; cases e)
          replace S := S.set 7 1 (.slice py ly Ky) rfl
          refine iv7 H n1 n2 ng nc nz na ny ?_; clear n1 n2 ng nc nz na ny; intro n1 n2 ng nc nz na ny; replace HH := HH.trans H; clear H
          refine ho hKK ⟨(S.c 1 0 rfl rfl), ⟨(S.c 1 1 rfl rfl), ⟨(S.c 4 0 rfl rfl), (S.c 4 1 rfl rfl)⟩⟩⟩ fun hS => ?_
          generalize ((w47.setCell ⟨w11.heap.size, 0, none⟩ (.bool (negB y))).setCell ⟨w11.heap.size, 1, none⟩ (.slice py ly Ky)) = w48 at S n1 n2 ng nc nz na ny HH hS ⊢
          clear hKK KK
          refine rd 11 fun KK hKK => ?_
          have c0 := S.c 8 0 rfl rfl; have f0 := S.f 8 0 rfl; have c1 := S.c 8 1 rfl rfl; have f1 := S.f 8 1 rfl; go_simp; clear hS c0 f0 c1 f1
          have H := S.hset 8 0 (.bool (negB yr)) rfl rfl (by intro q n e; cases e)
          replace S := S.set 8 0 (.bool (negB yr)) rfl
          refine iv7 H n1 n2 ng nc nz na ny ?_; clear n1 n2 ng nc nz na ny; intro n1 n2 ng nc nz na ny; replace HH := HH.trans H; clear H
          have H := S.hset 8 1 (.slice pv lv Kv) rfl rfl (by intro q n e; cases e)
          replace S := S.set 8 1 (.slice pv lv Kv) rfl
          refine iv7 H n1 n2 ng nc nz na ny ?_; clear n1 n2 ng nc nz na ny; intro n1 n2 ng nc nz na ny; replace HH := HH.trans H; clear H
          refine ho hKK ⟨(S.c 1 0 rfl rfl), ⟨(S.c 1 1 rfl rfl), ⟨(S.c 4 0 rfl rfl), (S.c 4 1 rfl rfl)⟩⟩⟩ fun hS => ?_
          generalize ((w48.setCell ⟨w41.heap.size, 0, none⟩ (.bool (negB yr))).setCell ⟨w41.heap.size, 1, none⟩ (.slice pv lv Kv)) = w49 at S n1 n2 ng nc nz na ny HH hS ⊢
          clear hKK KK
          refine rd 12 fun KK hKK => ?_
          go_simp
          refine ho hKK hS fun hS => ?_
          clear hKK KK
          refine wpAnyH_done (by kernel_rfl) ?_ _
          go_wp2_with fail
          go_meet
          case rel => exact ⟨w11.heap.size, py, ly, Ky, rfl, S.sub (.cons_cons _ (.cons_cons _ (.cons_cons _ (.cons_cons _ (.cons_cons _ (.cons_cons _ (.cons_cons _ (.cons_cons _ (.cons _ (.slnil)))))))))), ny, HH⟩
      ·
        go_simp; clear hS
        have H := S.hnew 30 [.bool false, .slice none 0 0]
        replace S := S.al 30 [.bool false, .slice none 0 0] (w40.heap.size)
        refine iv5 H n1 n2 ng nc nz ?_; clear n1 n2 ng nc nz; intro n1 n2 ng nc nz; replace HH := HH.trans H; clear H
        refine ho hKK ⟨(S.c 1 0 rfl rfl), ⟨(S.c 1 1 rfl rfl), ⟨(S.c 4 0 rfl rfl), (S.c 4 1 rfl rfl)⟩⟩⟩ fun hS => ?_
        generalize (w40.alloc (.cells #[.bool false, .slice none 0 0] 30)) = w50 at S n1 n2 ng nc nz HH hS ⊢
        clear hKK KK
        refine rd 1 fun KK hKK => ?_
        go_simp; clear hS
        refine (S.call (wabs_any ⟨_, _, _, by rw [HD.out.2.1], n2⟩ HD.out.2.2.2.1 ((d.natAbs : Nat) : Int) rfl)).mono ?_
        clear S
        rintro e w51 ⟨⟨_, rfl, pa, la, Ka, rfl, na⟩, S, H⟩
        refine iv5 H n1 n2 ng nc nz ?_; clear n1 n2 ng nc nz; intro n1 n2 ng nc nz; replace HH := HH.trans H; clear H
        go_wp2_with fail
        refine ho hKK ⟨(S.c 1 0 rfl rfl), ⟨(S.c 1 1 rfl rfl), ⟨(S.c 4 0 rfl rfl), (S.c 4 1 rfl rfl)⟩⟩⟩ fun hS => ?_
        clear hKK KK
        refine rd 3 fun KK hKK => ?_
        go_simp; clear hS
        refine (S.call (wdiv_to ⟨_, _, _, rfl, na⟩ ⟨_, _, _, rfl, nc⟩ HD.out.2.2.2.1 HG.out.2.1 y yr HG.out.2.2 HZ.out.2.2.1 HZ.out.2.2.2)).mono ?_
        clear S
        rintro e w52 ⟨⟨_, _, rfl, ⟨py, ly, Ky, rfl, ny⟩, ⟨pv, lv, Kv, rfl, nv⟩⟩, S, H⟩
        refine iv6 H n1 n2 ng nc nz na ?_; clear n1 n2 ng nc nz na; intro n1 n2 ng nc nz na; replace HH := HH.trans H; clear H
        go_wp2_with fail
        refine ho hKK ⟨(S.c 1 0 rfl rfl), ⟨(S.c 1 1 rfl rfl), ⟨(S.c 4 0 rfl rfl), (S.c 4 1 rfl rfl)⟩⟩⟩ fun hS => ?_
        clear hKK KK
        refine tk 4 hS ?_
        refine tk 5 hS ?_
        refine tk 6 hS ?_
        refine tk 7 hS ?_
        refine rd 10 fun KK hKK => ?_
        have c0 := S.c 7 0 rfl rfl; have f0 := S.f 7 0 rfl; have c1 := S.c 7 1 rfl rfl; have f1 := S.f 7 1 rfl; go_simp; clear hS c0 f0 c1 f1
        have H := S.hset 7 0 (.bool (negB y)) rfl rfl (by intro q n e; cases e)
        replace S := S.set 7 0 (.bool (negB y)) rfl
        refine iv7 H n1 n2 ng nc nz na ny ?_; clear n1 n2 ng nc nz na ny; intro n1 n2 ng nc nz na ny; replace HH := HH.trans H; clear H
        have H := S.hset 7 1 (.slice py ly Ky) rfl rfl (by intro q n e; cases e)
        replace S := S.set 7 1 (.slice py ly Ky) rfl
        refine iv7 H n1 n2 ng nc nz na ny ?_; clear n1 n2 ng nc nz na ny; intro n1 n2 ng nc nz na ny; replace HH := HH.trans H; clear H
        refine ho hKK ⟨(S.c 1 0 rfl rfl), ⟨(S.c 1 1 rfl rfl), ⟨(S.c 4 0 rfl rfl), (S.c 4 1 rfl rfl)⟩⟩⟩ fun hS => ?_
        generalize ((w52.setCell ⟨w11.heap.size, 0, none⟩ (.bool (negB y))).setCell ⟨w11.heap.size, 1, none⟩ (.slice py ly Ky)) = w53 at S n1 n2 ng nc nz na ny HH hS ⊢
        clear hKK KK
        refine rd 11 fun KK hKK => ?_
        have c0 := S.c 8 0 rfl rfl; have f0 := S.f 8 0 rfl; have c1 := S.c 8 1 rfl rfl; have f1 := S.f 8 1 rfl; go_simp; clear hS c0 f0 c1 f1
        have H := S.hset 8 0 (.bool (negB yr)) rfl rfl (by intro q n e; cases e)
        replace S := S.set 8 0 (.bool (negB yr)) rfl
        refine iv7 H n1 n2 ng nc nz na ny ?_; clear n1 n2 ng nc nz na ny; intro n1 n2 ng nc nz na ny; replace HH := HH.trans H; clear H
        have H := S.hset 8 1 (.slice pv lv Kv) rfl rfl (by intro q n e; cases e)
        replace S := S.set 8 1 (.slice pv lv Kv) rfl
        refine iv7 H n1 n2 ng nc nz na ny ?_; clear n1 n2 ng nc nz na ny; intro n1 n2 ng nc nz na ny; replace HH := HH.trans H; clear H
        refine ho hKK ⟨(S.c 1 0 rfl rfl), ⟨(S.c 1 1 rfl rfl), ⟨(S.c 4 0 rfl rfl), (S.c 4 1 rfl rfl)⟩⟩⟩ fun hS => ?_
        generalize ((w53.setCell ⟨w40.heap.size, 0, none⟩ (.bool (negB yr))).setCell ⟨w40.heap.size, 1, none⟩ (.slice pv lv Kv)) = w54 at S n1 n2 ng nc nz na ny HH hS ⊢
        clear hKK KK
        refine rd 12 fun KK hKK => ?_
        go_simp
        refine ho hKK hS fun hS => ?_
        clear hKK KK
        refine wpAnyH_done (by kernel_rfl) ?_ _
        go_wp2_with fail
        go_meet
        case rel => exact ⟨w11.heap.size, py, ly, Ky, rfl, S.sub (.cons_cons _ (.cons_cons _ (.cons_cons _ (.cons_cons _ (.cons_cons _ (.cons_cons _ (.cons_cons _ (.cons_cons _ (.cons _ (.slnil)))))))))), ny, HH⟩
    ·
      go_simp; clear hS
      have H := S.hnew 30 [.bool false, .slice none 0 0]
      replace S := S.al 30 [.bool false, .slice none 0 0] (w11.heap.size)
      refine iv5 H n1 n2 ng nc nz ?_; clear n1 n2 ng nc nz; intro n1 n2 ng nc nz; replace HH := HH.trans H; clear H
      refine ho hKK ⟨(S.c 1 0 rfl rfl), ⟨(S.c 1 1 rfl rfl), ⟨(S.c 4 0 rfl rfl), (S.c 4 1 rfl rfl)⟩⟩⟩ fun hS => ?_
      generalize (w11.alloc (.cells #[.bool false, .slice none 0 0] 30)) = w55 at S n1 n2 ng nc nz HH hS ⊢
      clear hKK KK
      refine wpAnyH_ready (rs := [1, 8]) (by kernel_rfl) (by simp) (AllReadyH.cons (opOf rfl) (fun KK hKK => ?_) (AllReadyH.cons (opOf rfl) (fun KK hKK => ?_) AllReadyH.nil))
      ·
        go_simp; clear hS
        refine (S.call (wabs_any ⟨_, _, _, by rw [HD.out.2.1], n2⟩ HD.out.2.2.2.1 ((d.natAbs : Nat) : Int) rfl)).mono ?_
        clear S
        rintro e w56 ⟨⟨_, rfl, pa, la, Ka, rfl, na⟩, S, H⟩
        refine iv5 H n1 n2 ng nc nz ?_; clear n1 n2 ng nc nz; intro n1 n2 ng nc nz; replace HH := HH.trans H; clear H
        go_wp2_with fail
        refine ho hKK ⟨(S.c 1 0 rfl rfl), ⟨(S.c 1 1 rfl rfl), ⟨(S.c 4 0 rfl rfl), (S.c 4 1 rfl rfl)⟩⟩⟩ fun hS => ?_
        clear hKK KK
        refine wpAnyH_ready (rs := [3, 8]) (by kernel_rfl) (by simp) (AllReadyH.cons (opOf rfl) (fun KK hKK => ?_) (AllReadyH.cons (opOf rfl) (fun KK hKK => ?_) AllReadyH.nil))
        ·
          go_simp; clear hS
          refine (S.call (wdiv_to ⟨_, _, _, rfl, na⟩ ⟨_, _, _, rfl, nc⟩ HD.out.2.2.2.1 HG.out.2.1 y yr HG.out.2.2 HZ.out.2.2.1 HZ.out.2.2.2)).mono ?_
          clear S
          rintro e w57 ⟨⟨_, _, rfl, ⟨py, ly, Ky, rfl, ny⟩, ⟨pv, lv, Kv, rfl, nv⟩⟩, S, H⟩
          refine iv6 H n1 n2 ng nc nz na ?_; clear n1 n2 ng nc nz na; intro n1 n2 ng nc nz na; replace HH := HH.trans H; clear H
          go_wp2_with fail
          refine ho hKK ⟨(S.c 1 0 rfl rfl), ⟨(S.c 1 1 rfl rfl), ⟨(S.c 4 0 rfl rfl), (S.c 4 1 rfl rfl)⟩⟩⟩ fun hS => ?_
          clear hKK KK
          refine tk 4 hS ?_
          refine tk 5 hS ?_
          refine tk 6 hS ?_
          refine tk 7 hS ?_
          refine rd 8 fun KK hKK => ?_
          go_simp; clear hS
          have H := S.hnew 30 [.bool false, .slice none 0 0]
          replace S := S.al 30 [.bool false, .slice none 0 0] (w57.heap.size)
          refine iv7 H n1 n2 ng nc nz na ny ?_; clear n1 n2 ng nc nz na ny; intro n1 n2 ng nc nz na ny; replace HH := HH.trans H; clear H
          refine ho hKK ⟨(S.c 1 0 rfl rfl), ⟨(S.c 1 1 rfl rfl), ⟨(S.c 4 0 rfl rfl), (S.c 4 1 rfl rfl)⟩⟩⟩ fun hS => ?_
          generalize (w57.alloc (.cells #[.bool false, .slice none 0 0] 30)) = w58 at S n1 n2 ng nc nz na ny HH hS ⊢
          clear hKK KK
          refine rd 10 fun KK hKK => ?_
          have c0 := S.c 8 0 rfl rfl; have f0 := S.f 8 0 rfl; have c1 := S.c 8 1 rfl rfl; have f1 := S.f 8 1 rfl; go_simp; clear hS c0 f0 c1 f1
          have H := S.hset 8 0 (.bool (negB y)) rfl rfl (by intro q n e; cases e)
          replace S := S.set 8 0 (.bool (negB y)) rfl
          refine iv7 H n1 n2 ng nc nz na ny ?_; clear n1 n2 ng nc nz na ny; intro n1 n2 ng nc nz na ny; replace HH := HH.trans H; clear H
          have H := S.hset 8 1 (.slice py ly Ky) rfl rfl (by intro q n e; cases e)
          replace S := S.set 8 1 (.slice py ly Ky) rfl
          refine iv7 H n1 n2 ng nc nz na ny ?_; clear n1 n2 ng nc nz na ny; intro n1 n2 ng nc nz na ny; replace HH := HH.trans H; clear H
          refine ho hKK ⟨(S.c 1 0 rfl rfl), ⟨(S.c 1 1 rfl rfl), ⟨(S.c 4 0 rfl rfl), (S.c 4 1 rfl rfl)⟩⟩⟩ fun hS => ?_
          generalize ((w58.setCell ⟨w57.heap.size, 0, none⟩ (.bool (negB y))).setCell ⟨w57.heap.size, 1, none⟩ (.slice py ly Ky)) = w59 at S n1 n2 ng nc nz na ny HH hS ⊢
          clear hKK KK
          refine rd 11 fun KK hKK => ?_
          have c0 := S.c 7 0 rfl rfl; have f0 := S.f 7 0 rfl; have c1 := S.c 7 1 rfl rfl; have f1 := S.f 7 1 rfl; go_simp; clear hS c0 f0 c1 f1
          have H := S.hset 7 0 (.bool (negB yr)) rfl rfl (by intro q n e; cases e)
          replace S := S.set 7 0 (.bool (negB yr)) rfl
          refine iv7 H n1 n2 ng nc nz na ny ?_; clear n1 n2 ng nc nz na ny; intro n1 n2 ng nc nz na ny; replace HH := HH.trans H; clear H
          have H := S.hset 7 1 (.slice pv lv Kv) rfl rfl (by intro q n e; cases e)
          replace S := S.set 7 1 (.slice pv lv Kv) rfl
          refine iv7 H n1 n2 ng nc nz na ny ?_; clear n1 n2 ng nc nz na ny; intro n1 n2 ng nc nz na ny; replace HH := HH.trans H; clear H
          refine ho hKK ⟨(S.c 1 0 rfl rfl), ⟨(S.c 1 1 rfl rfl), ⟨(S.c 4 0 rfl rfl), (S.c 4 1 rfl rfl)⟩⟩⟩ fun hS => ?_
          generalize ((w59.setCell ⟨w11.heap.size, 0, none⟩ (.bool (negB yr))).setCell ⟨w11.heap.size, 1, none⟩ (.slice pv lv Kv)) = w60 at S n1 n2 ng nc nz na ny HH hS ⊢
          clear hKK KK
          refine rd 12 fun KK hKK => ?_
          go_simp
          refine ho hKK hS fun hS => ?_
          clear hKK KK
          refine wpAnyH_done (by kernel_rfl) ?_ _
          go_wp2_with fail
          go_meet
          case rel => exact ⟨w57.heap.size, py, ly, Ky, rfl, S.sub (.cons_cons _ (.cons_cons _ (.cons_cons _ (.cons_cons _ (.cons_cons _ (.cons_cons _ (.cons_cons _ (.cons _ (.cons_cons _ (.slnil)))))))))), ny, HH⟩
        ·
          go_simp; clear hS
          have H := S.hnew 30 [.bool false, .slice none 0 0]
          replace S := S.al 30 [.bool false, .slice none 0 0] (w56.heap.size)
          refine iv6 H n1 n2 ng nc nz na ?_; clear n1 n2 ng nc nz na; intro n1 n2 ng nc nz na; replace HH := HH.trans H; clear H
          refine ho hKK ⟨(S.c 1 0 rfl rfl), ⟨(S.c 1 1 rfl rfl), ⟨(S.c 4 0 rfl rfl), (S.c 4 1 rfl rfl)⟩⟩⟩ fun hS => ?_
          generalize (w56.alloc (.cells #[.bool false, .slice none 0 0] 30)) = w61 at S n1 n2 ng nc nz na HH hS ⊢
          clear hKK KK
          refine rd 3 fun KK hKK => ?_
          go_simp; clear hS
          refine (S.call (wdiv_to ⟨_, _, _, rfl, na⟩ ⟨_, _, _, rfl, nc⟩ HD.out.2.2.2.1 HG.out.2.1 y yr HG.out.2.2 HZ.out.2.2.1 HZ.out.2.2.2)).mono ?_
          clear S
          rintro e w62 ⟨⟨_, _, rfl, ⟨py, ly, Ky, rfl, ny⟩, ⟨pv, lv, Kv, rfl, nv⟩⟩, S, H⟩
          refine iv6 H n1 n2 ng nc nz na ?_; clear n1 n2 ng nc nz na; intro n1 n2 ng nc nz na; replace HH := HH.trans H; clear H
          go_wp2_with fail
          refine ho hKK ⟨(S.c 1 0 rfl rfl), ⟨(S.c 1 1 rfl rfl), ⟨(S.c 4 0 rfl rfl), (S.c 4 1 rfl rfl)⟩⟩⟩ fun hS => ?_
          clear hKK KK
          refine tk 4 hS ?_
          refine tk 5 hS ?_
          refine tk 6 hS ?_
          refine tk 7 hS ?_
          refine rd 10 fun KK hKK => ?_
          have c0 := S.c 8 0 rfl rfl; have f0 := S.f 8 0 rfl; have c1 := S.c 8 1 rfl rfl; have f1 := S.f 8 1 rfl; go_simp; clear hS c0 f0 c1 f1
          have H := S.hset 8 0 (.bool (negB y)) rfl rfl (by intro q n e; cases e)
          replace S := S.set 8 0 (.bool (negB y)) rfl
          refine iv7 H n1 n2 ng nc nz na ny ?_; clear n1 n2 ng nc nz na ny; intro n1 n2 ng nc nz na ny; replace HH := HH.trans H; clear H
          have H := S.hset 8 1 (.slice py ly Ky) rfl rfl (by intro q n e; cases e)
          replace S := S.set 8 1 (.slice py ly Ky) rfl
          refine iv7 H n1 n2 ng nc nz na ny ?_; clear n1 n2 ng nc nz na ny; intro n1 n2 ng nc nz na ny; replace HH := HH.trans H; clear H
          refine ho hKK ⟨(S.c 1 0 rfl rfl), ⟨(S.c 1 1 rfl rfl), ⟨(S.c 4 0 rfl rfl), (S.c 4 1 rfl rfl)⟩⟩⟩ fun hS => ?_
          generalize ((w62.setCell ⟨w56.heap.size, 0, none⟩ (.bool (negB y))).setCell ⟨w56.heap.size, 1, none⟩ (.slice py ly Ky)) = w63 at S n1 n2 ng nc nz na ny HH hS ⊢
          clear hKK KK
          refine rd 11 fun KK hKK => ?_
          have c0 := S.c 7 0 rfl rfl; have f0 := S.f 7 0 rfl; have c1 := S.c 7 1 rfl rfl; have f1 := S.f 7 1 rfl; go_simp; clear hS c0 f0 c1 f1
          have H := S.hset 7 0 (.bool (negB yr)) rfl rfl (by intro q n e; cases e)
          replace S := S.set 7 0 (.bool (negB yr)) rfl
          refine iv7 H n1 n2 ng nc nz na ny ?_; clear n1 n2 ng nc nz na ny; intro n1 n2 ng nc nz na ny; replace HH := HH.trans H; clear H
          have H := S.hset 7 1 (.slice pv lv Kv) rfl rfl (by intro q n e; cases e)
          replace S := S.set 7 1 (.slice pv lv Kv) rfl
          refine iv7 H n1 n2 ng nc nz na ny ?_; clear n1 n2 ng nc nz na ny; intro n1 n2 ng nc nz na ny; replace HH := HH.trans H; clear H
          refine ho hKK ⟨(S.c 1 0 rfl rfl), ⟨(S.c 1 1 rfl rfl), ⟨(S.c 4 0 rfl rfl), (S.c 4 1 rfl rfl)⟩⟩⟩ fun hS => ?_
          generalize ((w63.setCell ⟨w11.heap.size, 0, none⟩ (.bool (negB yr))).setCell ⟨w11.heap.size, 1, none⟩ (.slice pv lv Kv)) = w64 at S n1 n2 ng nc nz na ny HH hS ⊢
          clear hKK KK
          refine rd 12 fun KK hKK => ?_
          go_simp
          refine ho hKK hS fun hS => ?_
          clear hKK KK
          refine wpAnyH_done (by kernel_rfl) ?_ _
          go_wp2_with fail
          go_meet
          case rel => exact ⟨w56.heap.size, py, ly, Ky, rfl, S.sub (.cons_cons _ (.cons_cons _ (.cons_cons _ (.cons_cons _ (.cons_cons _ (.cons_cons _ (.cons_cons _ (.cons _ (.cons_cons _ (.slnil)))))))))), ny, HH⟩
      ·
        go_simp; clear hS
        have H := S.hnew 30 [.bool false, .slice none 0 0]
        replace S := S.al 30 [.bool false, .slice none 0 0] (w55.heap.size)
        refine iv5 H n1 n2 ng nc nz ?_; clear n1 n2 ng nc nz; intro n1 n2 ng nc nz; replace HH := HH.trans H; clear H
        refine ho hKK ⟨(S.c 1 0 rfl rfl), ⟨(S.c 1 1 rfl rfl), ⟨(S.c 4 0 rfl rfl), (S.c 4 1 rfl rfl)⟩⟩⟩ fun hS => ?_
        generalize (w55.alloc (.cells #[.bool false, .slice none 0 0] 30)) = w65 at S n1 n2 ng nc nz HH hS ⊢
        clear hKK KK
        refine rd 1 fun KK hKK => ?_
        go_simp; clear hS
        refine (S.call (wabs_any ⟨_, _, _, by rw [HD.out.2.1], n2⟩ HD.out.2.2.2.1 ((d.natAbs : Nat) : Int) rfl)).mono ?_
        clear S
        rintro e w66 ⟨⟨_, rfl, pa, la, Ka, rfl, na⟩, S, H⟩
        refine iv5 H n1 n2 ng nc nz ?_; clear n1 n2 ng nc nz; intro n1 n2 ng nc nz; replace HH := HH.trans H; clear H
        go_wp2_with fail
        refine ho hKK ⟨(S.c 1 0 rfl rfl), ⟨(S.c 1 1 rfl rfl), ⟨(S.c 4 0 rfl rfl), (S.c 4 1 rfl rfl)⟩⟩⟩ fun hS => ?_
        clear hKK KK
        refine rd 3 fun KK hKK => ?_
        go_simp; clear hS
        refine (S.call (wdiv_to ⟨_, _, _, rfl, na⟩ ⟨_, _, _, rfl, nc⟩ HD.out.2.2.2.1 HG.out.2.1 y yr HG.out.2.2 HZ.out.2.2.1 HZ.out.2.2.2)).mono ?_
        clear S
        rintro e w67 ⟨⟨_, _, rfl, ⟨py, ly, Ky, rfl, ny⟩, ⟨pv, lv, Kv, rfl, nv⟩⟩, S, H⟩
        refine iv6 H n1 n2 ng nc nz na ?_; clear n1 n2 ng nc nz na; intro n1 n2 ng nc nz na; replace HH := HH.trans H; clear H
        go_wp2_with fail
        refine ho hKK ⟨(S.c 1 0 rfl rfl), ⟨(S.c 1 1 rfl rfl), ⟨(S.c 4 0 rfl rfl), (S.c 4 1 rfl rfl)⟩⟩⟩ fun hS => ?_
        clear hKK KK
        refine tk 4 hS ?_
        refine tk 5 hS ?_
        refine tk 6 hS ?_
        refine tk 7 hS ?_
        refine rd 10 fun KK hKK => ?_
        have c0 := S.c 8 0 rfl rfl; have f0 := S.f 8 0 rfl; have c1 := S.c 8 1 rfl rfl; have f1 := S.f 8 1 rfl; go_simp; clear hS c0 f0 c1 f1
        have H := S.hset 8 0 (.bool (negB y)) rfl rfl (by intro q n e; cases e)
        replace S := S.set 8 0 (.bool (negB y)) rfl
        refine iv7 H n1 n2 ng nc nz na ny ?_; clear n1 n2 ng nc nz na ny; intro n1 n2 ng nc nz na ny; replace HH := HH.trans H; clear H
        have H := S.hset 8 1 (.slice py ly Ky) rfl rfl (by intro q n e; cases e)
        replace S := S.set 8 1 (.slice py ly Ky) rfl
        refine iv7 H n1 n2 ng nc nz na ny ?_; clear n1 n2 ng nc nz na ny; intro n1 n2 ng nc nz na ny; replace HH := HH.trans H; clear H
        refine ho hKK ⟨(S.c 1 0 rfl rfl), ⟨(S.c 1 1 rfl rfl), ⟨(S.c 4 0 rfl rfl), (S.c 4 1 rfl rfl)⟩⟩⟩ fun hS => ?_
        generalize ((w67.setCell ⟨w55.heap.size, 0, none⟩ (.bool (negB y))).setCell ⟨w55.heap.size, 1, none⟩ (.slice py ly Ky)) = w68 at S n1 n2 ng nc nz na ny HH hS ⊢
        clear hKK KK
        refine rd 11 fun KK hKK => ?_
        have c0 := S.c 7 0 rfl rfl; have f0 := S.f 7 0 rfl; have c1 := S.c 7 1 rfl rfl; have f1 := S.f 7 1 rfl; go_simp; clear hS c0 f0 c1 f1
        have H := S.hset 7 0 (.bool (negB yr)) rfl rfl (by intro q n e; cases e)
        replace S := S.set 7 0 (.bool (negB yr)) rfl
        refine iv7 H n1 n2 ng nc nz na ny ?_; clear n1 n2 ng nc nz na ny; intro n1 n2 ng nc nz na ny; replace HH := HH.trans H; clear H
        have H := S.hset 7 1 (.slice pv lv Kv) rfl rfl (by intro q n e; cases e)
        replace S := S.set 7 1 (.slice pv lv Kv) rfl
        refine iv7 H n1 n2 ng nc nz na ny ?_; clear n1 n2 ng nc nz na ny; intro n1 n2 ng nc nz na ny; replace HH := HH.trans H; clear H
        refine ho hKK ⟨(S.c 1 0 rfl rfl), ⟨(S.c 1 1 rfl rfl), ⟨(S.c 4 0 rfl rfl), (S.c 4 1 rfl rfl)⟩⟩⟩ fun hS => ?_
        generalize ((w68.setCell ⟨w11.heap.size, 0, none⟩ (.bool (negB yr))).setCell ⟨w11.heap.size, 1, none⟩ (.slice pv lv Kv)) = w69 at S n1 n2 ng nc nz na ny HH hS ⊢
        clear hKK KK
        refine rd 12 fun KK hKK => ?_
        go_simp
        refine ho hKK hS fun hS => ?_
        clear hKK KK
        refine wpAnyH_done (by kernel_rfl) ?_ _
        go_wp2_with fail
        go_meet
        case rel => exact ⟨w55.heap.size, py, ly, Ky, rfl, S.sub (.cons_cons _ (.cons_cons _ (.cons_cons _ (.cons_cons _ (.cons_cons _ (.cons_cons _ (.cons_cons _ (.cons _ (.cons_cons _ (.slnil)))))))))), ny, HH⟩
  case rest =>
    obtain ⟨g11, py, ly, Ky, rfl, S, ny, HH⟩ := hcut
    obtain ⟨w70, rfl⟩ : ∃ W : World, W = wc := ⟨_, rfl⟩
    refine iv5 HH n1 n2 ng nc nz ?_; clear n1 n2 ng nc nz; intro n1 n2 ng nc nz; clear HH
    cases b2 with
    | false =>
      have HN := Lib.hid (HQ.out.2.2.1 rfl)
      have c0_0 := S.c 0 0 rfl rfl; have c0_1 := S.c 0 1 rfl rfl; have c1_0 := S.c 1 0 rfl rfl; have c1_1 := S.c 1 1 rfl rfl; obtain ⟨c2_0, c2_1, c2_2⟩ := S.c3 2 rfl; have c4_0 := S.c 4 0 rfl rfl; have c4_1 := S.c 4 1 rfl rfl; have c5_0 := S.c 5 0 rfl rfl; have c5_1 := S.c 5 1 rfl rfl; have c7_0 := S.c 7 0 rfl rfl; have c7_1 := S.c 7 1 rfl rfl
      obtain ⟨f2_0, f2_1, f2_2⟩ := S.f3 2 rfl
      have HP := S.putq 2 (.bool (negB z)) (.slice pz lz Kz) (.slice py ly Ky) rfl rfl; have H := HP.2; replace S := HP.1; clear HP
      refine iv6 H n1 n2 ng nc nz ny ?_; clear n1 n2 ng nc nz ny; intro n1 n2 ng nc nz ny
      clear H; go_wp2_with fail; obtain ⟨d2_0, d2_1, d2_2⟩ := S.c3 2 rfl
      exact bodyPost_ret (v := .tuple #[.agg #[.bool (negB z), .slice pz lz Kz, .slice py ly Ky], .int .i64 0]) (by simp [results, Try.f30, go_sem, d2_0, d2_1, d2_2]) rfl (⟨⟨_, rfl, negB z, pz, lz, Kz, py, ly, Ky, rfl, by rw [HN.out]; rfl, by rw [HN.out]; exact nz, by rw [← HQ.out.1]; exact ny⟩, S.below⟩)
    | true =>
      have HN := Lib.hid (HQ.out.2.2.2 rfl)
      have c0_0 := S.c 0 0 rfl rfl; have c0_1 := S.c 0 1 rfl rfl; have c1_0 := S.c 1 0 rfl rfl; have c1_1 := S.c 1 1 rfl rfl; obtain ⟨c2_0, c2_1, c2_2⟩ := S.c3 2 rfl; have c4_0 := S.c 4 0 rfl rfl; have c4_1 := S.c 4 1 rfl rfl; have c5_0 := S.c 5 0 rfl rfl; have c5_1 := S.c 5 1 rfl rfl; have c7_0 := S.c 7 0 rfl rfl; have c7_1 := S.c 7 1 rfl rfl; go_wp2_with fail; clear c0_0 c0_1 c1_0 c1_1 c2_0 c2_1 c2_2 c4_0 c4_1 c5_0 c5_1 c7_0 c7_1
      refine (S.call (wneg_to ⟨_, _, _, rfl, nz⟩ HQ.out.2.1 (-z) rfl)).mono ?_
      clear S
      rintro e w71 ⟨⟨_, rfl, pw, lw, Kw, rfl, nw⟩, S, H⟩
      refine iv6 H n1 n2 ng nc nz ny ?_; clear n1 n2 ng nc nz ny; intro n1 n2 ng nc nz ny
      clear H; have c0_0 := S.c 0 0 rfl rfl; have c0_1 := S.c 0 1 rfl rfl; have c1_0 := S.c 1 0 rfl rfl; have c1_1 := S.c 1 1 rfl rfl; obtain ⟨c2_0, c2_1, c2_2⟩ := S.c3 2 rfl; have c4_0 := S.c 4 0 rfl rfl; have c4_1 := S.c 4 1 rfl rfl; have c5_0 := S.c 5 0 rfl rfl; have c5_1 := S.c 5 1 rfl rfl; have c7_0 := S.c 7 0 rfl rfl; have c7_1 := S.c 7 1 rfl rfl; have f5_0 := S.f 5 0 rfl
      have H := S.hset 5 0 (.bool (negB (-z))) rfl rfl (by intro q n e; cases e)
      replace S := S.set 5 0 (.bool (negB (-z))) rfl
      refine iv7 H n1 n2 ng nc nz ny nw ?_; clear n1 n2 ng nc nz ny nw; intro n1 n2 ng nc nz ny nw
      clear H; have f5_1 := S.f 5 1 rfl
      have H := S.hset 5 1 (.slice pw lw Kw) rfl rfl (by intro q n e; cases e)
      replace S := S.set 5 1 (.slice pw lw Kw) rfl
      refine iv7 H n1 n2 ng nc nz ny nw ?_; clear n1 n2 ng nc nz ny nw; intro n1 n2 ng nc nz ny nw
      clear H; have c5_0 := S.c 5 0 rfl rfl; have c5_1 := S.c 5 1 rfl rfl; have c7_1 := S.c 7 1 rfl rfl; obtain ⟨c2_0, c2_1, c2_2⟩ := S.c3 2 rfl
      obtain ⟨f2_0, f2_1, f2_2⟩ := S.f3 2 rfl
      have HP := S.putq 2 (.bool (negB (-z))) (.slice pw lw Kw) (.slice py ly Ky) rfl rfl; have H := HP.2; replace S := HP.1; clear HP
      refine iv7 H n1 n2 ng nc nz ny nw ?_; clear n1 n2 ng nc nz ny nw; intro n1 n2 ng nc nz ny nw
      clear H; go_wp2_with fail; obtain ⟨d2_0, d2_1, d2_2⟩ := S.c3 2 rfl
      exact bodyPost_ret (v := .tuple #[.agg #[.bool (negB (-z)), .slice pw lw Kw, .slice py ly Ky], .int .i64 0]) (by simp [results, Try.f30, go_sem, d2_0, d2_1, d2_2]) rfl (⟨⟨_, rfl, negB (-z), pw, lw, Kw, py, ly, Ky, rfl, by rw [HN.out]; rfl, by rw [HN.out]; exact nw, by rw [← HQ.out.1]; exact ny⟩, S.below⟩)
theorem divInt_le (n d : Int) (h : d ≠ 0) : (Rat.divInt n d).num.natAbs ≤ n.natAbs ∧ (Rat.divInt n d).den ≤ d.natAbs := by
  obtain ⟨h1, h2, h3, h4⟩ := make_parts n d h
  refine ⟨?_, by rw [h2]; exact Nat.div_le_self _ _⟩
  rcases (show 0 < d ∨ d < 0 by omega) with h0 | h0
  · rw [h3 h0]; exact Int.natAbs_ediv_le_natAbs _ _
  · rw [h4 h0, Int.natAbs_neg]; exact Int.natAbs_ediv_le_natAbs _ _
theorem rb_divInt {n d : Int} {k : Nat} (h : d ≠ 0) (hn : n.natAbs < NB k) (hd : d.natAbs < NB k) : RB (Rat.divInt n d) k :=
  ⟨Nat.lt_of_le_of_lt (divInt_le n d h).1 hn, Nat.lt_of_le_of_lt (divInt_le n d h).2 hd⟩
theorem add_divInt (x y : Rat) : x + y = Rat.divInt (x.num * y.den + y.num * x.den) ((x.den * y.den : Nat) : Int) := by rw [Rat.add_def', Rat.divInt_ofNat]
theorem mul_divInt (x y : Rat) : x * y = Rat.divInt (x.num * y.num) ((x.den * y.den : Nat) : Int) := by rw [Rat.mul_def', Rat.divInt_ofNat]
theorem rbz {x y : Rat} {a b : Nat} (h : RB x a) (k : RB y b) : (x.num * y.den).natAbs < NB (a + b) ∧ (y.num * x.den).natAbs < NB (a + b) ∧ x.den * y.den < NB (a + b) ∧ (x.num * y.num).natAbs < NB (a + b) := by
  refine ⟨nbz_mul h.1 k.2, ?_, nb_mul h.2 k.2, nbz_mul h.1 k.1⟩
  rw [Nat.add_comm]
  exact nbz_mul k.1 h.2
theorem rb_add {x y : Rat} {a b : Nat} (h : RB x a) (k : RB y b) : RB (x + y) (a + b + 1) := by
  obtain ⟨h1, h2, h3, _⟩ := rbz h k
  rw [add_divInt]
  refine rb_divInt (by have := Nat.mul_pos x.den_pos y.den_pos; omega) (nbz_add h1 h2) (nb_mono h3 (by omega))
theorem rb_mul {x y : Rat} {a b : Nat} (h : RB x a) (k : RB y b) : RB (x * y) (a + b) := by
  obtain ⟨_, _, h3, h4⟩ := rbz h k
  rw [mul_divInt]
  exact rb_divInt (by have := Nat.mul_pos x.den_pos y.den_pos; omega) h4 h3
theorem rb_max {x : Rat} {a : Nat} (h : RB x a) (hk : a ≤ 512) : x.num.natAbs < maxN ∧ x.den < maxN := ⟨nb_max h.1 hk, nb_max h.2 hk⟩
set_option maxRecDepth 100000 in
set_option maxHeartbeats 4000000 in
theorem rof_any (n d : Int) (w : World) (hn0 : -9223372036854775808 ≤ n) (hn1 : n ≤ 9223372036854775807) (hd0 : -9223372036854775808 ≤ d) (hd1 : d ≤ 9223372036854775807) (h0 : d ≠ 0) (q : Rat) (hq : q = Rat.divInt n d) :
    Calls Try.prog 12 #[.int .i64 n, .int .i64 d] w fun e w' => (∃ u, e = .returned u ∧ IsRat w' u q) ∧ Below w.heap.size w w' := by
  have HD := Lib.hid (And.intro hn0 (And.intro hn1 (And.intro hd0 (And.intro hd1 (And.intro h0 hq)))))
  have HB := Lib.hid (And.intro (show n.natAbs < maxN from lt_maxN (by omega)) (show d.natAbs < maxN from lt_maxN (by omega)))
  clear hn0 hn1 hd0 hd1 h0 hq
  have S := (St.start w).alloc 32 [.bool false, .slice none 0 0, .slice none 0 0] (w.heap.size)
  try simp only [List.nil_append] at S
  obtain ⟨c0_0, c0_1, c0_2⟩ := S.c3 0 rfl
  go_enter Try.func12, Try.ntmps12
  go_wp2_with fail; clear c0_0 c0_1 c0_2
  refine (S.call (wof_any n _ HD.out.1 HD.out.2.1)).mono ?_
  clear S
  rintro e w1 ⟨⟨_, rfl, pn, ln, Kn, rfl, nn⟩, S, H⟩
  clear H; obtain ⟨c0_0, c0_1, c0_2⟩ := S.c3 0 rfl; go_wp2_with fail; clear c0_0 c0_1 c0_2
  refine (S.call (wof_any d _ HD.out.2.2.1 HD.out.2.2.2.1)).mono ?_
  clear S
  rintro e w2 ⟨⟨_, rfl, pd, ld, Kd, rfl, nd⟩, S, H⟩
  replace nn := nn.hold H; clear H; obtain ⟨c0_0, c0_1, c0_2⟩ := S.c3 0 rfl; go_wp2_with fail; clear c0_0 c0_1 c0_2
  refine (S.call (rmake_any ⟨_, _, _, rfl, nn⟩ ⟨_, _, _, rfl, nd⟩ HB.out.1 HB.out.2 HD.out.2.2.2.2.1 q HD.out.2.2.2.2.2)).mono ?_
  clear S
  rintro e w3 ⟨⟨_, rfl, b, p, l, K, q', j, J, rfl, hb, n1, d1⟩, S, H⟩
  replace nn := nn.hold H; replace nd := nd.hold H
  clear H; obtain ⟨c0_0, c0_1, c0_2⟩ := S.c3 0 rfl
  have H := S.hnew 32 [.bool b, .slice p l K, .slice q' j J]
  replace S := S.al 32 [.bool b, .slice p l K, .slice q' j J] (w3.heap.size)
  refine iv4 H nn nd n1 d1 ?_; clear nn nd n1 d1; intro nn nd n1 d1
  clear H; clear c0_0 c0_1 c0_2; obtain ⟨c0_0, c0_1, c0_2⟩ := S.c3 0 rfl; obtain ⟨c1_0, c1_1, c1_2⟩ := S.c3 1 rfl
  obtain ⟨f0_0, f0_1, f0_2⟩ := S.f3 0 rfl
  have HP := S.putq 0 (.bool b) (.slice p l K) (.slice q' j J) rfl rfl; have H := HP.2; replace S := HP.1; clear HP
  refine iv4 H nn nd n1 d1 ?_; clear nn nd n1 d1; intro nn nd n1 d1
  clear H; go_wp2_with fail; obtain ⟨d0_0, d0_1, d0_2⟩ := S.c3 0 rfl
  exact bodyPost_ret (v := .agg #[.bool b, .slice p l K, .slice q' j J]) (by simp [results, Try.f12, go_sem, d0_0, d0_1, d0_2]) rfl (⟨⟨_, rfl, b, p, l, K, q', j, J, rfl, hb, n1, d1⟩, S.below⟩)
theorem St.putIn {w W : World} {L : List (Nat × TypeId × List Value)} (S : St w W L) (i j : Nat) (v0 v1 v2 : Value) {b : Nat} {t : TypeId} {vs : List Value} {x0 x1 x2 : Value} (hi : L[i]? = some (b, t, vs)) (e0 : vs[j]? = some x0) (e1 : vs[j + 1]? = some x1) (e2 : vs[j + 2]? = some x2) (hn : ([x0, x1, x2].all noNum) = true) :
    St w (((W.setCell ⟨b, j, none⟩ v0).setCell ⟨b, j + 1, none⟩ v1).setCell ⟨b, j + 2, none⟩ v2) (L.set i (b, t, ((vs.set j v0).set (j + 1) v1).set (j + 2) v2)) ∧
    Hold W (((W.setCell ⟨b, j, none⟩ v0).setCell ⟨b, j + 1, none⟩ v1).setCell ⟨b, j + 2, none⟩ v2) := by
  simp only [List.all_cons, List.all_nil, Bool.and_true, Bool.and_eq_true] at hn
  have hl : i < L.length := (List.getElem?_eq_some_iff.1 hi).1
  have S1 := S.set i j v0 hi
  have H1 := Hold.set (S.c i j hi e0) (noNum_is hn.1) v0
  have h1 : (setL L i j v0)[i]? = some (b, t, vs.set j v0) := setL_at hi
  have g1 : (vs.set j v0)[j + 1]? = some x1 := by rw [List.getElem?_set_ne (by omega)]; exact e1
  have S2 := S1.set i (j + 1) v1 h1
  have H2 := Hold.set (S1.c i (j + 1) h1 g1) (noNum_is hn.2.1) v1
  have h2 : (setL (setL L i j v0) i (j + 1) v1)[i]? = some (b, t, (vs.set j v0).set (j + 1) v1) := setL_at h1
  have g2 : ((vs.set j v0).set (j + 1) v1)[j + 2]? = some x2 := by rw [List.getElem?_set_ne (by omega), List.getElem?_set_ne (by omega)]; exact e2
  have S3 := S2.set i (j + 2) v2 h2
  have H3 := Hold.set (S2.c i (j + 2) h2 g2) (noNum_is hn.2.2) v2
  have e3 : setL (setL (setL L i j v0) i (j + 1) v1) i (j + 2) v2 = L.set i (b, t, ((vs.set j v0).set (j + 1) v1).set (j + 2) v2) := by
    rw [setL_set h2, setL_set h1, setL_set hi, List.set_set, List.set_set]
  rw [e3] at S3
  exact ⟨S3, (H1.trans H2).trans H3⟩
theorem RL.set {w : World} {v0 v1 v2 : Value} {q : Rat} (hq : RatV w v0 v1 v2 q) : ∀ {vs : List Value} {qs : List Rat} {j : Nat}, RL w vs qs → j < qs.length → RL w (((vs.set (j * 3) v0).set (j * 3 + 1) v1).set (j * 3 + 2) v2) (qs.set j q)
  | [], [], _, _, h => by simp at h
  | _ :: _ :: _ :: vs, _ :: qs, 0, ⟨_, h2⟩, _ => ⟨hq, h2⟩
  | u0 :: u1 :: u2 :: vs, p :: qs, j + 1, ⟨h1, h2⟩, h => by
    have ih := RL.set hq (j := j) h2 (by simpa using h)
    rw [show (j + 1) * 3 + 2 = j * 3 + 2 + 1 + 1 + 1 by omega, show (j + 1) * 3 + 1 = j * 3 + 1 + 1 + 1 + 1 by omega, show (j + 1) * 3 = j * 3 + 1 + 1 + 1 by omega]
    exact ⟨h1, ih⟩
theorem RatV.plain {w : World} {v0 v1 v2 : Value} {q : Rat} : RatV w v0 v1 v2 q → ([v0, v1, v2].all Go.Proofs.Ytcfgefbkeeedgaa.noNum) = true
  | ⟨_, _, _, _, _, _, _, e0, e1, e2, _⟩ => by rw [e0, e1, e2]; rfl
def unitL (n : Nat) (at' : Int) : List Rat := (List.range n).map fun i : Nat => if (i : Int) = at' then 1 else 0
theorem unitL_len (n : Nat) (at' : Int) : (unitL n at').length = n := by simp [unitL]
theorem unitL_none {n : Nat} {z : Int} (h : z < 0 ∨ (n : Int) ≤ z) : unitL n z = List.replicate n 0 := by
  apply List.ext_getElem?
  intro j
  unfold unitL
  by_cases hj : j < n
  · rw [List.getElem?_map, List.getElem?_range hj, List.getElem?_replicate, if_pos hj]
    simp
    omega
  · rw [List.getElem?_eq_none (by simp; omega), List.getElem?_eq_none (by simp; omega)]
theorem unitL_at {n k : Nat} (h : k < n) : unitL n (k : Int) = (List.replicate n 0).set k 1 := by
  apply List.ext_getElem?
  intro j
  unfold unitL
  by_cases hj : j < n
  · rw [List.getElem?_map, List.getElem?_range hj, List.getElem?_set]
    by_cases e : k = j
    · subst e
      simp [h]
    · rw [if_neg e, List.getElem?_replicate, if_pos hj]
      simp
      omega
  · rw [List.getElem?_eq_none (by simp; omega), List.getElem?_eq_none (by simp; omega)]
set_option maxRecDepth 100000 in
set_option maxHeartbeats 4000000 in
theorem vunit_any (n : Nat) (hn : n ≤ 16) (z : Int) (w : World) :
    Calls Try.prog 4 #[.int .i64 n, .int .i64 z] w fun e w' => (∃ v, e = .returned v ∧ FreshR w w' v (unitL n z)) ∧ Below w.heap.size w w' := by
  have HN := Lib.hid hn
  by_cases hz0 : z < 0
  · have hz1 : ¬ z ≥ 0 := by omega
    rw [unitL_none (.inl hz0)]
    clear hn
    have S := St.start w
    go_enter Try.func4, Try.ntmps4
    go_wp2_with fail
    refine (S.call (vzero_any n HN.out _)).mono ?_
    clear S
    rintro e w1 ⟨⟨v, rfl, hv⟩, S, H⟩
    clear H; go_wp2_with fail
    exact bodyPost_ret (v := v) (by simp [results, Try.f4, go_sem]) rfl (⟨⟨_, rfl, hv⟩, S.below⟩)
  · obtain ⟨k, rfl⟩ : ∃ k : Nat, z = (k : Int) := ⟨z.toNat, by omega⟩
    by_cases hkn : k < n
    · rw [unitL_at hkn]
      have HK := Lib.hid hkn
      have hki : ((k : Nat) : Int) < ((n : Nat) : Int) := by omega
      clear hn hkn
      have S := St.start w
      go_enter Try.func4, Try.ntmps4
      go_wp2_with fail
      refine (S.call (vzero_any n HN.out _)).mono ?_
      rintro e w1 ⟨⟨v, rfl, g, vs, rfl, hg, hh, hr⟩, S', H⟩
      have hB := S'.below
      clear S'
      replace S := S.adopt hB hg hh
      simp only [List.nil_append] at S
      clear H hh
      rw [List.length_replicate]
      go_wp2_with fail
      refine (S.call (rof_any 1 1 _ (by decide) (by decide) (by decide) (by decide) (by decide) 1 (by decide +kernel))).mono ?_
      clear S
      rintro e w2 ⟨⟨_, rfl, b, p1, l1, K1, p2, l2, K2, rfl, hs, n1, n2⟩, S, H⟩
      replace hr := hr.hold H; clear H
      obtain ⟨x0, x1, x2, e0, e1, e2, hx⟩ := hr.get (j := k) (q := 0) (by rw [List.getElem?_replicate, if_pos HK.out])
      have f0 := S.f 0 (k * 3) rfl
      have f1 := S.f 0 (k * 3 + 1) rfl
      have f2 := S.f 0 (k * 3 + 2) rfl
      have g0 := S.c 0 (k * 3) rfl e0
      have g1 := S.c 0 (k * 3 + 1) rfl e1
      have g2 := S.c 0 (k * 3 + 2) rfl e2
      obtain ⟨S2, H⟩ := S.putIn 0 (k * 3) (.bool b) (.slice p1 l1 K1) (.slice p2 l2 K2) rfl e0 e1 e2 hx.plain
      have hr2 := (hr.hold H).set (j := k) (q := 1) ⟨b, p1, l1, K1, p2, l2, K2, rfl, rfl, rfl, hs, n1.hold H, n2.hold H⟩ (by rw [List.length_replicate]; exact HK.out)
      have HR := Lib.hid (And.intro hg hr2)
      clear hr e0 e1 e2 hx hs n1 n2 H hr2 S; go_wp2_with fail
      exact bodyPost_ret (v := .slice (some ⟨g, 0, none⟩) n n) (by simp [results, Try.f4, go_sem]) rfl (⟨⟨_, rfl, g, _, by rw [List.length_set, List.length_replicate], HR.out.1, (S2.locs.get 0 rfl).2, HR.out.2⟩, S2.below⟩)
    · rw [unitL_none (.inr (by omega))]
      have hki : ¬ ((k : Nat) : Int) < ((n : Nat) : Int) := by omega
      clear hn hkn
      have S := St.start w
      go_enter Try.func4, Try.ntmps4
      go_wp2_with fail
      refine (S.call (vzero_any n HN.out _)).mono ?_
      clear S
      rintro e w1 ⟨⟨v, rfl, g, vs, rfl, hg, hh, hr⟩, S, H⟩
      clear H
      have HR := Lib.hid (And.intro hg (And.intro hh hr))
      clear hg hh hr
      rw [List.length_replicate]
      go_wp2_with fail
      exact bodyPost_ret (v := .slice (some ⟨g, 0, none⟩) n n) (by simp [results, Try.f4, go_sem]) rfl (⟨⟨_, rfl, g, vs, by rw [List.length_replicate], HR.out.1, HR.out.2.1, HR.out.2.2⟩, S.below⟩)
theorem Cols.get {w : World} : ∀ {C vs qss} {k : Nat} {qs : List Rat}, Cols w C vs qss → qss[k]? = some qs → ∃ g cs, C[k]? = some (g, 32, cs) ∧ vs[k]? = some (.slice (some ⟨g, 0, none⟩) qs.length qs.length) ∧ RL w cs qs
  | [], [], [], _, _, _, h => by simp at h
  | (g, _, cs) :: _, _ :: _, _ :: _, 0, _, ⟨⟨h1, h2, h3⟩, _⟩, h => by cases h; subst h1 h2; exact ⟨g, cs, rfl, rfl, h3⟩
  | (_, _, _) :: _, _ :: _, _ :: _, k + 1, _, ⟨_, h⟩, e => by
    obtain ⟨g, cs, h1, h2, h3⟩ := Cols.get (k := k) h (by simpa using e)
    exact ⟨g, cs, by simpa using h1, by simpa using h2, h3⟩
theorem Cols.set {w : World} {cs' : List Value} {qs : List Rat} (hr : RL w cs' qs) : ∀ {C vs qss} {k g : Nat} {t : TypeId} {cs : List Value}, Cols w C vs qss → C[k]? = some (g, t, cs) → qss[k]? = some qs → Cols w (C.set k (g, t, cs')) vs qss
  | [], [], [], _, _, _, _, _, h, _ => by simp at h
  | (_, _, _) :: _, _ :: _, _ :: _, 0, _, _, _, ⟨⟨h1, h2, _⟩, h⟩, e, e2 => by cases e; cases e2; exact ⟨⟨h1, h2, hr⟩, h⟩
  | (_, _, _) :: _, _ :: _, _ :: _, k + 1, _, _, _, ⟨h1, h⟩, e, e2 => ⟨h1, Cols.set hr (k := k) h (by simpa using e) (by simpa using e2)⟩
theorem colL_in {A : List (List Rat)} {k i m : Nat} {q : Rat} (hm : ∀ r, r ∈ A → r.length = m) (hk : k < m) (h : (colL A k)[i]? = some q) : ∃ r, r ∈ A ∧ q ∈ r := by
  unfold colL at h
  rw [List.getElem?_map] at h
  cases e : A[i]? with
  | none => rw [e] at h; cases h
  | some r =>
    rw [e] at h
    have hr := List.mem_of_getElem? e
    have hl := hm r hr
    have h1 : r[k]? = some (r[k]'(by omega)) := List.getElem?_eq_getElem _
    refine ⟨r, hr, ?_⟩
    have h2 : q = r[k]'(by omega) := by
      simp [List.getD, h1] at h
      exact h.symm
    rw [h2]
    exact List.getElem_mem _
set_option maxRecDepth 100000 in
set_option maxHeartbeats 4000000 in
theorem tturn_any {va : Value} {A : List (List Rat)} {w : World} (h : Tabs2 w va A) (n m : Nat) (hn : A.length = n) (hn9 : n ≤ 1000000) (hc : colsL A = m) (hm9 : m ≤ 1000000) (hm : ∀ r, r ∈ A → r.length = m) (hq : ∀ r, r ∈ A → ∀ q, q ∈ r → q.num.natAbs < maxN ∧ q.den < maxN) :
    Calls Try.prog 7 #[va] w fun e w' => (∃ g C vs, e = .returned (.tuple #[.slice (some ⟨g, 0, none⟩) m m, .int .i64 0]) ∧ Cols w' C vs ((List.range m).map (colL A)) ∧ Locs w' w.heap.size ((g, 22, vs) :: C)) ∧ Below w.heap.size w w' := by
  have HE := Lib.hid (fun (W : World) (hB : Below w.heap.size w W) => teven_yes (h.to hB) n hn hn9 (by rw [hc]; exact hm))
  have HT := Lib.hid (fun (W : World) (hB : Below w.heap.size w W) => tturned_any (h.to hB) n m hn hn9 hc hm9 hm)
  have hB9 : ∀ (k i : Nat) (q : Rat), k < m → (colL A k)[i]? = some q → q.num.natAbs < maxN ∧ q.den < maxN := by
    intro k i q hk e
    obtain ⟨r, h1, h2⟩ := colL_in hm hk e
    exact hq r h1 q h2
  have HI := Lib.hid (And.intro hB9 (And.intro hn (And.intro hn9 hm9)))
  clear h hn hn9 hc hm9 hm hq hB9
  have S := St.start w
  go_enter Try.func7, Try.ntmps7
  go_wp2_with fail
  refine (S.call (HE.out _ S.below)).mono ?_
  clear S
  rintro e w1 ⟨rfl, S, H⟩
  clear H; go_wp2_with fail
  have hIN := S.below.size
  refine (S.call (HT.out _ S.below)).mono ?_
  clear S
  rintro e w2 ⟨⟨g0, C, vs, rfl, hC, hL⟩, S', H⟩
  clear H
  have S : St w w2 ((g0, 22, vs) :: C) := ⟨S'.below, Locs.mono hIN hL⟩
  clear hL S' hIN; go_wp2_with fail
  go_loopw [16] (fun si wr => ∃ k : Nat, k ≤ m ∧ si = .int .i64 k ∧ ∃ C, Cols wr C vs ((List.range m).map (colL A)) ∧ St w wr ((g0, 22, vs) :: C)) (fun si _ => m - (intOf si).toNat)
  case atStart => exact ⟨0, by omega, rfl, C, hC, S⟩
  case round =>
    clear S hC
    obtain ⟨k, hk, rfl, C, hC, S⟩ := hrel
    by_cases hlt : k < m
    · have hqk : ((List.range m).map (colL A))[k]? = some (colL A k) := by simp [hlt]
      obtain ⟨gk, cs0, hCk, hvk, _⟩ := hC.get hqk
      rw [colL_len, HI.out.2.1] at hvk
      have HQ := Lib.hid (And.intro hlt (And.intro hqk hvk))
      have hki : (k : Int) < ((m : Nat) : Int) := by omega
      have hk9 : (k : Int) ≤ 1000000 := by have := HI.out.2.2.2; omega
      have g1 := S.c 0 k rfl hvk
      clear hlt hk hqk hvk hCk; go_wp2_with fail; clear g1
      go_loopw [22] (fun si wi => ∃ i : Nat, i ≤ n ∧ si = .int .i64 i ∧ ∃ C, Cols wi C vs ((List.range m).map (colL A)) ∧ St w wi ((g0, 22, vs) :: C)) (fun si _ => n - (intOf si).toNat)
      case atStart => exact ⟨0, by omega, rfl, C, hC, S⟩
      case round =>
        clear S hC
        obtain ⟨i, hi, rfl, C, hC, S⟩ := hrel
        by_cases hli : i < n
        · obtain ⟨g', cs, hCk, hvk, hv⟩ := hC.get HQ.out.2.1
          rw [HQ.out.2.2, colL_len, HI.out.2.1] at hvk
          cases hvk
          have hx : (colL A k)[i]? = some ((colL A k)[i]'(by rw [colL_len, HI.out.2.1]; exact hli)) := List.getElem?_eq_getElem _
          generalize ((colL A k)[i]'(by rw [colL_len, HI.out.2.1]; exact hli)) = x at hx
          obtain ⟨v0, v1, v2, a0, a1, a2, b, p1, l1, K1, p2, l2, K2, rfl, rfl, rfl, hb, n1, n2⟩ := hv.get hx
          have HZ := Lib.hid (And.intro hli (And.intro hCk (And.intro hx (And.intro a0 (And.intro a1 a2)))))
          have hii : (i : Int) < ((n : Nat) : Int) := by omega
          have hi9 : (i : Int) ≤ 1000000 := by have := HI.out.2.2.1; omega
          clear hi hli hx
          have k0 := S.c (k + 1) (i * 3) (by simpa using hCk) a0
          have k1 := S.c (k + 1) (i * 3 + 1) (by simpa using hCk) a1
          have k2 := S.c (k + 1) (i * 3 + 2) (by simpa using hCk) a2
          have H := S.hnew 32 [.bool b, .slice p1 l1 K1, .slice p2 l2 K2]
          replace S := S.alloc 32 [.bool b, .slice p1 l1 K1, .slice p2 l2 K2] (wr.heap.size)
          simp only [List.cons_append] at S
          refine iv4 H hC n1 n2 hv ?_; clear hC n1 n2 hv; intro hC n1 n2 hv
          clear H hCk a0 a1 a2
          have hCl : ((g0, 22, vs) :: (C ++ [(wr.heap.size, 32, [Value.bool b, .slice p1 l1 K1, .slice p2 l2 K2])]))[C.length + 1]? = some (wr.heap.size, 32, [Value.bool b, .slice p1 l1 K1, .slice p2 l2 K2]) := by simp
          obtain ⟨c0, c1, c2⟩ := S.c3 (C.length + 1) hCl
          go_wp2_with fail; clear c0 c1 c2 k0 k1 k2 hCl
          refine (S.call (mcopied_any ⟨b, p1, l1, K1, p2, l2, K2, rfl, hb, n1, n2⟩ (HI.out.1 k i x HQ.out.1 HZ.out.2.2.1).1 (HI.out.1 k i x HQ.out.1 HZ.out.2.2.1).2)).mono ?_
          clear S
          rintro e w4 ⟨⟨_, rfl, b9, p9, l9, K9, q9, j9, J9, rfl, h9, n9, d9⟩, S, H⟩
          replace hC := hC.hold H; replace hv := hv.hold H
          clear H n1 n2 hb
          replace S := S.take (C.length + 1) (L := (g0, 22, vs) :: C) (by simp)
          have hi1 : ((g0, 22, vs) :: C)[k + 1]? = some (gk, 32, cs) := by simpa using HZ.out.2.1
          have f0 := S.f (k + 1) (i * 3) hi1
          have f1 := S.f (k + 1) (i * 3 + 1) hi1
          have f2 := S.f (k + 1) (i * 3 + 2) hi1
          have k0 := S.c (k + 1) (i * 3) hi1 HZ.out.2.2.2.1
          have k1 := S.c (k + 1) (i * 3 + 1) hi1 HZ.out.2.2.2.2.1
          have k2 := S.c (k + 1) (i * 3 + 2) hi1 HZ.out.2.2.2.2.2
          have HP := S.putIn (k + 1) (i * 3) (.bool b9) (.slice p9 l9 K9) (.slice q9 j9 J9) hi1 HZ.out.2.2.2.1 HZ.out.2.2.2.2.1 HZ.out.2.2.2.2.2 rfl
          clear S hi1
          go_upto_region 11 with fail
          clear f0 f1 f2 k0 k1 k2
          obtain ⟨S, H⟩ := HP
          rw [List.set_cons_succ] at S
          have hv2 := RL.set (j := i) (q := x) ⟨b9, p9, l9, K9, q9, j9, J9, rfl, rfl, rfl, h9, n9.hold H, d9.hold H⟩ (hv.hold H) (by rw [colL_len, HI.out.2.1]; exact HZ.out.1)
          have hse : (colL A k).set i x = colL A k := by
            apply List.ext_getElem?
            intro j
            by_cases hj : i = j
            · subst hj
              rw [List.getElem?_set_self (by rw [colL_len, HI.out.2.1]; exact HZ.out.1)]
              exact HZ.out.2.2.1.symm
            · rw [List.getElem?_set_ne hj]
          rw [hse] at hv2
          have hC2 := Cols.set hv2 (hC.hold H) HZ.out.2.1 HQ.out.2.1
          clear hv hC H h9 n9 d9 hv2 hse; go_wp2_with fail
          go_roundw
          case rel => exact ⟨i + 1, HZ.out.1, by go_num, _, hC2, S⟩
          case measure => have := HZ.out.1; simp [intOf]; omega
        · have hii : ¬ (i : Int) < ((n : Nat) : Int) := by omega
          clear hli hi; go_wp2_with fail
          go_roundw
          case rel => exact ⟨k + 1, HQ.out.1, by go_num, _, hC, S⟩
          case measure => have := HQ.out.1; simp [intOf]; omega
    · have hki : ¬ (k : Int) < ((m : Nat) : Int) := by omega
      clear hlt hk; go_wp2_with fail
      exact bodyPost_ret (v := .tuple #[.slice (some ⟨g0, 0, none⟩) m m, .int .i64 0]) (by simp [results, Try.f7, go_sem]) rfl (by first | exact ⟨⟨g0, rfl, C, vs, hC, S.locs⟩, S.below⟩ | exact ⟨⟨g0, C, vs, rfl, hC, S.locs⟩, S.below⟩)
theorem Cols.tabs {w : World} {lo g : Nat} {t : TypeId} {C : List (Nat × TypeId × List Value)} {vs : List Value} {qss : List (List Rat)} (hC : Cols w C vs qss) (hL : Locs w lo ((g, t, vs) :: C)) {n : Nat} (hn : qss.length = n) : Tabs2 w (.slice (some ⟨g, 0, none⟩) n n) qss := by
  subst hn
  refine ⟨_, qss.length, rfl, fun h => (by cases h), Nat.le_refl _, fun j row hq => ?_⟩
  obtain ⟨gj, cs, h1, h2, h3⟩ := hC.get hq
  have hg := (Locs.get 0 hL rfl).2
  have hj := (Locs.get (j + 1) hL (by simpa using h1)).2
  exact ⟨g, 0, _, rfl, lt_of_heap hg, ArrAt.of_heap hg _ _ h2, .row (lt_of_heap hj) (Nat.le_refl _) (.of_heap hj) h3⟩
theorem colL_get {A : List (List Rat)} {k : Nat} {r : List Rat} (h : A[k]? = some r) (j : Nat) : (colL A j)[k]? = some (r.getD j 0) := by
  unfold colL
  rw [List.getElem?_map, h]
  rfl
set_option maxRecDepth 100000 in
set_option maxHeartbeats 2000000 in
theorem over_any {va vb : Value} {n d : Int} {w : World} (ha : IsInt w va n) (hb : IsInt w vb d) (hn : n.natAbs < maxN) (hd : d.natAbs < maxN) (h0 : d ≠ 0) (q : Rat) (hq : q = Rat.divInt n d) :
    Calls Try.prog 46 #[va, vb, .int .i64 0] w fun e w' => (∃ u, e = .returned (.tuple #[u, .int .i64 0]) ∧ IsRat w' u q) ∧ Below w.heap.size w w' := by
  obtain ⟨p1, l1, K1, rfl, n1⟩ := ha
  obtain ⟨p2, l2, K2, rfl, n2⟩ := hb
  obtain ⟨b1, hb1⟩ : ∃ b1, negB n = b1 := ⟨_, rfl⟩
  obtain ⟨b2, hb2⟩ : ∃ b2, negB d = b2 := ⟨_, rfl⟩
  rw [hb1, hb2]
  have HD := Lib.hid (And.intro hb1 (And.intro hb2 (And.intro hn (And.intro hd (And.intro h0 hq)))))
  clear hb1 hb2 hn hd h0 hq
  have S := (((St.start w).alloc 30 [.bool b1, .slice p1 l1 K1] (w.heap.size)).alloc 30 [.bool b2, .slice p2 l2 K2] (w.heap.size + 1)).alloc 32 [.bool false, .slice none 0 0, .slice none 0 0] (w.heap.size + 1 + 1)
  try simp only [List.cons_append, List.nil_append] at S
  replace n1 := n1.hold S.hold; replace n2 := n2.hold S.hold
  have c0_0 := S.c 0 0 rfl rfl; have c0_1 := S.c 0 1 rfl rfl; have c1_0 := S.c 1 0 rfl rfl; have c1_1 := S.c 1 1 rfl rfl; obtain ⟨c2_0, c2_1, c2_2⟩ := S.c3 2 rfl
  go_enter Try.func46, Try.ntmps46
  go_wp2_with fail; clear c0_0 c0_1 c1_0 c1_1 c2_0 c2_1 c2_2
  refine (S.call (rmake_any ⟨_, _, _, by rw [HD.out.1], n1⟩ ⟨_, _, _, by rw [HD.out.2.1], n2⟩ HD.out.2.2.1 HD.out.2.2.2.1 HD.out.2.2.2.2.1 q HD.out.2.2.2.2.2)).mono ?_
  clear S
  rintro e w1 ⟨⟨_, rfl, b, p, l, K, q', j, J, rfl, hb, nn, dd⟩, S, H⟩
  replace n1 := n1.hold H; replace n2 := n2.hold H
  clear H; have c0_0 := S.c 0 0 rfl rfl; have c0_1 := S.c 0 1 rfl rfl; have c1_0 := S.c 1 0 rfl rfl; have c1_1 := S.c 1 1 rfl rfl; obtain ⟨c2_0, c2_1, c2_2⟩ := S.c3 2 rfl
  obtain ⟨f2_0, f2_1, f2_2⟩ := S.f3 2 rfl
  have HP := S.putq 2 (.bool b) (.slice p l K) (.slice q' j J) rfl rfl; have H := HP.2; replace S := HP.1; clear HP
  refine iv4 H n1 n2 nn dd ?_; clear n1 n2 nn dd; intro n1 n2 nn dd
  clear H; go_wp2_with fail; obtain ⟨d2_0, d2_1, d2_2⟩ := S.c3 2 rfl
  exact bodyPost_ret (v := .tuple #[.agg #[.bool b, .slice p l K, .slice q' j J], .int .i64 0]) (by simp [results, Try.f46, go_sem, d2_0, d2_1, d2_2]) rfl (⟨⟨_, rfl, b, p, l, K, q', j, J, rfl, hb, nn, dd⟩, S.below⟩)
set_option maxRecDepth 100000 in
set_option maxHeartbeats 4000000 in
theorem rmul_any {va vb : Value} {x y : Rat} {w : World} (ha : IsRat w va x) (hb : IsRat w vb y) {k1 k2 : Nat} (hx : RB x k1) (hy : RB y k2) (hk : k1 + k2 ≤ 511) (q : Rat) (hq : x * y = q) :
    Calls Try.prog 25 #[va, vb] w fun e w' => (∃ u, e = .returned (.tuple #[u, .int .i64 0]) ∧ IsRat w' u q) ∧ Below w.heap.size w w' := by
  obtain ⟨b1, p1, l1, K1, q1, j1, J1, rfl, hb1, n1, d1⟩ := ha
  obtain ⟨b2, p2, l2, K2, q2, j2, J2, rfl, hb2, n2, d2⟩ := hb
  obtain ⟨Z, hZ⟩ : ∃ Z, x.num * y.num = Z := ⟨_, rfl⟩
  obtain ⟨D, hD⟩ : ∃ D, ((x.den * y.den : Nat) : Int) = D := ⟨_, rfl⟩
  have hb := rbz hx hy
  rw [hZ] at hb
  have hD0 : D ≠ 0 := by rw [← hD]; have := Nat.mul_pos x.den_pos y.den_pos; omega
  have hDb : D.natAbs < maxN := by rw [← hD, Int.natAbs_natCast]; exact nb_max hb.2.2.1 (by omega)
  have hdd : (x.den : Int) * (y.den : Int) = D := by rw [← hD, Int.natCast_mul]
  have hq2 : q = Rat.divInt Z D := by rw [← hq, mul_divInt, hZ, hD]
  have HX := Lib.hid (And.intro (rb_max hx (by omega)) (rb_max hy (by omega)))
  have HD := Lib.hid (And.intro hZ (And.intro hdd (And.intro hq2 hD0)))
  have HB := Lib.hid (And.intro (nb_max hb.2.2.2 (by omega)) hDb)
  clear hZ hD hb hD0 hDb hdd hq hq2 hx hy hk
  have S := (((St.start w).alloc 32 [.bool b1, .slice p1 l1 K1, .slice q1 j1 J1] (w.heap.size)).alloc 32 [.bool b2, .slice p2 l2 K2, .slice q2 j2 J2] (w.heap.size + 1)).alloc 32 [.bool false, .slice none 0 0, .slice none 0 0] (w.heap.size + 1 + 1)
  try simp only [List.cons_append, List.nil_append] at S
  refine iv4 S.hold n1 d1 n2 d2 ?_; clear n1 d1 n2 d2; intro n1 d1 n2 d2
  obtain ⟨c0_0, c0_1, c0_2⟩ := S.c3 0 rfl; obtain ⟨c1_0, c1_1, c1_2⟩ := S.c3 1 rfl; obtain ⟨c2_0, c2_1, c2_2⟩ := S.c3 2 rfl
  go_enter Try.func25, Try.ntmps25
  go_wp2_with fail; clear c0_0 c0_1 c0_2 c1_0 c1_1 c1_2 c2_0 c2_1 c2_2
  refine (S.call (wmul_to ⟨_, _, _, by rw [hb1.out], n1⟩ ⟨_, _, _, by rw [hb2.out], n2⟩ HX.out.1.1 HX.out.2.1 Z HD.out.1 HB.out.1)).mono ?_
  clear S
  rintro e w1 ⟨⟨_, rfl, pz, lz, Kz, rfl, nz⟩, S, H⟩
  refine iv4 H n1 d1 n2 d2 ?_; clear n1 d1 n2 d2; intro n1 d1 n2 d2
  clear H; obtain ⟨c0_0, c0_1, c0_2⟩ := S.c3 0 rfl; obtain ⟨c1_0, c1_1, c1_2⟩ := S.c3 1 rfl; obtain ⟨c2_0, c2_1, c2_2⟩ := S.c3 2 rfl
  have H := S.hnew 30 [.bool (negB Z), .slice pz lz Kz]
  replace S := S.al 30 [.bool (negB Z), .slice pz lz Kz] (w1.heap.size)
  refine iv5 H n1 d1 n2 d2 nz ?_; clear n1 d1 n2 d2 nz; intro n1 d1 n2 d2 nz
  clear H; clear c0_0 c0_1 c0_2 c1_0 c1_1 c1_2 c2_0 c2_1 c2_2; obtain ⟨c0_0, c0_1, c0_2⟩ := S.c3 0 rfl; obtain ⟨c1_0, c1_1, c1_2⟩ := S.c3 1 rfl; obtain ⟨c2_0, c2_1, c2_2⟩ := S.c3 2 rfl; have c3_0 := S.c 3 0 rfl rfl; have c3_1 := S.c 3 1 rfl rfl
  go_upto_region 2 with fail
  clear c0_0 c0_1 c0_2 c1_0 c1_1 c1_2 c2_0 c2_1 c2_2 c3_0 c3_1
  generalize (w1.alloc (.cells #[.bool (negB Z), .slice pz lz Kz] 30)) = w2 at S n1 d1 n2 d2 nz ⊢
  go_cut [8, 9] (fun s8 s9 wx => ∃ g8 pd ld Kd, s8 = .pointer (some ⟨g8, 0, none⟩) ∧ s9 = .int .i64 0 ∧ St w wx [(w.heap.size, 32, [.bool b1, .slice p1 l1 K1, .slice q1 j1 J1]), (w.heap.size + 1, 32, [.bool b2, .slice p2 l2 K2, .slice q2 j2 J2]), (w.heap.size + 1 + 1, 32, [.bool false, .slice none 0 0, .slice none 0 0]), (w1.heap.size, 30, [.bool (negB Z), .slice pz lz Kz]), (g8, 30, [.bool (negB D), .slice pd ld Kd])] ∧ IsNat wx (.slice pd ld Kd) D.natAbs ∧ Hold w2 wx)
  case first =>
    have HH := Hold.drew w2
    refine iv5 HH n1 d1 n2 d2 nz ?_; clear n1 d1 n2 d2 nz; intro n1 d1 n2 d2 nz
    replace S := S.drew
    refine wp_region_held_drew (S := fun W => W.cell? ⟨w.heap.size, 2, none⟩ = some (.slice q1 j1 J1) ∧ W.cell? ⟨w.heap.size + 1, 2, none⟩ = some (.slice q2 j2 J2)) (by kernel_rfl) ⟨(S.c 0 2 rfl rfl), (S.c 1 2 rfl rfl)⟩ (fun hS => ?_)
    generalize w2.drew = w3 at S n1 d1 n2 d2 nz HH hS ⊢
    refine tk 0 hS ?_
    refine tk 1 hS ?_
    refine tk 3 hS ?_
    refine tk 4 hS ?_
    refine wpAnyH_ready (rs := [2, 10]) (by kernel_rfl) (by simp) (AllReadyH.cons (opOf rfl) (fun KK hKK => ?_) (AllReadyH.cons (opOf rfl) (fun KK hKK => ?_) AllReadyH.nil))
    ·
      go_simp; clear hS
      refine (S.call (wnat_any d1 HX.out.1.2 (x.den : Int) rfl)).mono ?_
      clear S
      rintro e w4 ⟨⟨_, rfl, pa, la, Ka, rfl, na⟩, S, H⟩
      refine iv5 H n1 d1 n2 d2 nz ?_; clear n1 d1 n2 d2 nz; intro n1 d1 n2 d2 nz; replace HH := HH.trans H; clear H
      go_wp2_with fail
      refine ho hKK ⟨(S.c 0 2 rfl rfl), (S.c 1 2 rfl rfl)⟩ fun hS => ?_
      clear hKK KK
      refine wpAnyH_ready (rs := [5, 10]) (by kernel_rfl) (by simp) (AllReadyH.cons (opOf rfl) (fun KK hKK => ?_) (AllReadyH.cons (opOf rfl) (fun KK hKK => ?_) AllReadyH.nil))
      ·
        go_simp; clear hS
        refine (S.call (wnat_any d2 HX.out.2.2 (y.den : Int) rfl)).mono ?_
        clear S
        rintro e w5 ⟨⟨_, rfl, pb, lb, Kb, rfl, nb⟩, S, H⟩
        refine iv6 H n1 d1 n2 d2 nz na ?_; clear n1 d1 n2 d2 nz na; intro n1 d1 n2 d2 nz na; replace HH := HH.trans H; clear H
        go_wp2_with fail
        refine ho hKK ⟨(S.c 0 2 rfl rfl), (S.c 1 2 rfl rfl)⟩ fun hS => ?_
        clear hKK KK
        refine wpAnyH_ready (rs := [6, 10]) (by kernel_rfl) (by simp) (AllReadyH.cons (opOf rfl) (fun KK hKK => ?_) (AllReadyH.cons (opOf rfl) (fun KK hKK => ?_) AllReadyH.nil))
        ·
          go_simp; clear hS
          refine (S.call (wmul_to ⟨_, _, _, rfl, na⟩ ⟨_, _, _, rfl, nb⟩ HX.out.1.2 HX.out.2.2 D HD.out.2.1 HB.out.2)).mono ?_
          clear S
          rintro e w6 ⟨⟨_, rfl, pd, ld, Kd, rfl, nd⟩, S, H⟩
          refine iv7 H n1 d1 n2 d2 nz na nb ?_; clear n1 d1 n2 d2 nz na nb; intro n1 d1 n2 d2 nz na nb; replace HH := HH.trans H; clear H
          go_wp2_with fail
          refine ho hKK ⟨(S.c 0 2 rfl rfl), (S.c 1 2 rfl rfl)⟩ fun hS => ?_
          clear hKK KK
          refine tk 7 hS ?_
          refine tk 8 hS ?_
          refine tk 9 hS ?_
          refine rd 10 fun KK hKK => ?_
          go_simp; clear hS
          have H := S.hnew 30 [.bool false, .slice none 0 0]
          replace S := S.al 30 [.bool false, .slice none 0 0] (w6.heap.size)
          refine iv8 H n1 d1 n2 d2 nz na nb nd ?_; clear n1 d1 n2 d2 nz na nb nd; intro n1 d1 n2 d2 nz na nb nd; replace HH := HH.trans H; clear H
          refine ho hKK ⟨(S.c 0 2 rfl rfl), (S.c 1 2 rfl rfl)⟩ fun hS => ?_
          generalize (w6.alloc (.cells #[.bool false, .slice none 0 0] 30)) = w7 at S n1 d1 n2 d2 nz na nb nd HH hS ⊢
          clear hKK KK
          refine rd 11 fun KK hKK => ?_
          have c0 := S.c 4 0 rfl rfl; have f0 := S.f 4 0 rfl; have c1 := S.c 4 1 rfl rfl; have f1 := S.f 4 1 rfl; go_simp; clear hS c0 f0 c1 f1
          have H := S.hset 4 0 (.bool (negB D)) rfl rfl (by intro q n e; cases e)
          replace S := S.set 4 0 (.bool (negB D)) rfl
          refine iv8 H n1 d1 n2 d2 nz na nb nd ?_; clear n1 d1 n2 d2 nz na nb nd; intro n1 d1 n2 d2 nz na nb nd; replace HH := HH.trans H; clear H
          have H := S.hset 4 1 (.slice pd ld Kd) rfl rfl (by intro q n e; cases e)
          replace S := S.set 4 1 (.slice pd ld Kd) rfl
          refine iv8 H n1 d1 n2 d2 nz na nb nd ?_; clear n1 d1 n2 d2 nz na nb nd; intro n1 d1 n2 d2 nz na nb nd; replace HH := HH.trans H; clear H
          refine ho hKK ⟨(S.c 0 2 rfl rfl), (S.c 1 2 rfl rfl)⟩ fun hS => ?_
          generalize ((w7.setCell ⟨w6.heap.size, 0, none⟩ (.bool (negB D))).setCell ⟨w6.heap.size, 1, none⟩ (.slice pd ld Kd)) = w8 at S n1 d1 n2 d2 nz na nb nd HH hS ⊢
          clear hKK KK
          refine rd 12 fun KK hKK => ?_
          go_simp
          refine ho hKK hS fun hS => ?_
          clear hKK KK
          refine wpAnyH_done (by kernel_rfl) ?_ _
          go_wp2_with fail
          go_meet
          case rel => exact ⟨w6.heap.size, pd, ld, Kd, rfl, rfl, S, nd, HH⟩
        ·
          go_simp; clear hS
          have H := S.hnew 30 [.bool false, .slice none 0 0]
          replace S := S.al 30 [.bool false, .slice none 0 0] (w5.heap.size)
          refine iv7 H n1 d1 n2 d2 nz na nb ?_; clear n1 d1 n2 d2 nz na nb; intro n1 d1 n2 d2 nz na nb; replace HH := HH.trans H; clear H
          refine ho hKK ⟨(S.c 0 2 rfl rfl), (S.c 1 2 rfl rfl)⟩ fun hS => ?_
          generalize (w5.alloc (.cells #[.bool false, .slice none 0 0] 30)) = w9 at S n1 d1 n2 d2 nz na nb HH hS ⊢
          clear hKK KK
          refine rd 6 fun KK hKK => ?_
          go_simp; clear hS
          refine (S.call (wmul_to ⟨_, _, _, rfl, na⟩ ⟨_, _, _, rfl, nb⟩ HX.out.1.2 HX.out.2.2 D HD.out.2.1 HB.out.2)).mono ?_
          clear S
          rintro e w10 ⟨⟨_, rfl, pd, ld, Kd, rfl, nd⟩, S, H⟩
          refine iv7 H n1 d1 n2 d2 nz na nb ?_; clear n1 d1 n2 d2 nz na nb; intro n1 d1 n2 d2 nz na nb; replace HH := HH.trans H; clear H
          go_wp2_with fail
          refine ho hKK ⟨(S.c 0 2 rfl rfl), (S.c 1 2 rfl rfl)⟩ fun hS => ?_
          clear hKK KK
          refine tk 7 hS ?_
          refine tk 8 hS ?_
          refine tk 9 hS ?_
          refine rd 11 fun KK hKK => ?_
          have c0 := S.c 4 0 rfl rfl; have f0 := S.f 4 0 rfl; have c1 := S.c 4 1 rfl rfl; have f1 := S.f 4 1 rfl; go_simp; clear hS c0 f0 c1 f1
          have H := S.hset 4 0 (.bool (negB D)) rfl rfl (by intro q n e; cases e)
          replace S := S.set 4 0 (.bool (negB D)) rfl
          refine iv8 H n1 d1 n2 d2 nz na nb nd ?_; clear n1 d1 n2 d2 nz na nb nd; intro n1 d1 n2 d2 nz na nb nd; replace HH := HH.trans H; clear H
          have H := S.hset 4 1 (.slice pd ld Kd) rfl rfl (by intro q n e; cases e)
          replace S := S.set 4 1 (.slice pd ld Kd) rfl
          refine iv8 H n1 d1 n2 d2 nz na nb nd ?_; clear n1 d1 n2 d2 nz na nb nd; intro n1 d1 n2 d2 nz na nb nd; replace HH := HH.trans H; clear H
          refine ho hKK ⟨(S.c 0 2 rfl rfl), (S.c 1 2 rfl rfl)⟩ fun hS => ?_
          generalize ((w10.setCell ⟨w5.heap.size, 0, none⟩ (.bool (negB D))).setCell ⟨w5.heap.size, 1, none⟩ (.slice pd ld Kd)) = w11 at S n1 d1 n2 d2 nz na nb nd HH hS ⊢
          clear hKK KK
          refine rd 12 fun KK hKK => ?_
          go_simp
          refine ho hKK hS fun hS => ?_
          clear hKK KK
          refine wpAnyH_done (by kernel_rfl) ?_ _
          go_wp2_with fail
          go_meet
          case rel => exact ⟨w5.heap.size, pd, ld, Kd, rfl, rfl, S, nd, HH⟩
      ·
        go_simp; clear hS
        have H := S.hnew 30 [.bool false, .slice none 0 0]
        replace S := S.al 30 [.bool false, .slice none 0 0] (w4.heap.size)
        refine iv6 H n1 d1 n2 d2 nz na ?_; clear n1 d1 n2 d2 nz na; intro n1 d1 n2 d2 nz na; replace HH := HH.trans H; clear H
        refine ho hKK ⟨(S.c 0 2 rfl rfl), (S.c 1 2 rfl rfl)⟩ fun hS => ?_
        generalize (w4.alloc (.cells #[.bool false, .slice none 0 0] 30)) = w12 at S n1 d1 n2 d2 nz na HH hS ⊢
        clear hKK KK
        refine rd 5 fun KK hKK => ?_
        go_simp; clear hS
        refine (S.call (wnat_any d2 HX.out.2.2 (y.den : Int) rfl)).mono ?_
        clear S
        rintro e w13 ⟨⟨_, rfl, pb, lb, Kb, rfl, nb⟩, S, H⟩
        refine iv6 H n1 d1 n2 d2 nz na ?_; clear n1 d1 n2 d2 nz na; intro n1 d1 n2 d2 nz na; replace HH := HH.trans H; clear H
        go_wp2_with fail
        refine ho hKK ⟨(S.c 0 2 rfl rfl), (S.c 1 2 rfl rfl)⟩ fun hS => ?_
        clear hKK KK
        refine rd 6 fun KK hKK => ?_
        go_simp; clear hS
        refine (S.call (wmul_to ⟨_, _, _, rfl, na⟩ ⟨_, _, _, rfl, nb⟩ HX.out.1.2 HX.out.2.2 D HD.out.2.1 HB.out.2)).mono ?_
        clear S
        rintro e w14 ⟨⟨_, rfl, pd, ld, Kd, rfl, nd⟩, S, H⟩
        refine iv7 H n1 d1 n2 d2 nz na nb ?_; clear n1 d1 n2 d2 nz na nb; intro n1 d1 n2 d2 nz na nb; replace HH := HH.trans H; clear H
        go_wp2_with fail
        refine ho hKK ⟨(S.c 0 2 rfl rfl), (S.c 1 2 rfl rfl)⟩ fun hS => ?_
        clear hKK KK
        refine tk 7 hS ?_
        refine tk 8 hS ?_
        refine tk 9 hS ?_
        refine rd 11 fun KK hKK => ?_
        have c0 := S.c 4 0 rfl rfl; have f0 := S.f 4 0 rfl; have c1 := S.c 4 1 rfl rfl; have f1 := S.f 4 1 rfl; go_simp; clear hS c0 f0 c1 f1
        have H := S.hset 4 0 (.bool (negB D)) rfl rfl (by intro q n e; cases e)
        replace S := S.set 4 0 (.bool (negB D)) rfl
        refine iv8 H n1 d1 n2 d2 nz na nb nd ?_; clear n1 d1 n2 d2 nz na nb nd; intro n1 d1 n2 d2 nz na nb nd; replace HH := HH.trans H; clear H
        have H := S.hset 4 1 (.slice pd ld Kd) rfl rfl (by intro q n e; cases e)
        replace S := S.set 4 1 (.slice pd ld Kd) rfl
        refine iv8 H n1 d1 n2 d2 nz na nb nd ?_; clear n1 d1 n2 d2 nz na nb nd; intro n1 d1 n2 d2 nz na nb nd; replace HH := HH.trans H; clear H
        refine ho hKK ⟨(S.c 0 2 rfl rfl), (S.c 1 2 rfl rfl)⟩ fun hS => ?_
        generalize ((w14.setCell ⟨w4.heap.size, 0, none⟩ (.bool (negB D))).setCell ⟨w4.heap.size, 1, none⟩ (.slice pd ld Kd)) = w15 at S n1 d1 n2 d2 nz na nb nd HH hS ⊢
        clear hKK KK
        refine rd 12 fun KK hKK => ?_
        go_simp
        refine ho hKK hS fun hS => ?_
        clear hKK KK
        refine wpAnyH_done (by kernel_rfl) ?_ _
        go_wp2_with fail
        go_meet
        case rel => exact ⟨w4.heap.size, pd, ld, Kd, rfl, rfl, S, nd, HH⟩
    ·
      go_simp; clear hS
      have H := S.hnew 30 [.bool false, .slice none 0 0]
      replace S := S.al 30 [.bool false, .slice none 0 0] (w3.heap.size)
      refine iv5 H n1 d1 n2 d2 nz ?_; clear n1 d1 n2 d2 nz; intro n1 d1 n2 d2 nz; replace HH := HH.trans H; clear H
      refine ho hKK ⟨(S.c 0 2 rfl rfl), (S.c 1 2 rfl rfl)⟩ fun hS => ?_
      generalize (w3.alloc (.cells #[.bool false, .slice none 0 0] 30)) = w16 at S n1 d1 n2 d2 nz HH hS ⊢
      clear hKK KK
      refine rd 2 fun KK hKK => ?_
      go_simp; clear hS
      refine (S.call (wnat_any d1 HX.out.1.2 (x.den : Int) rfl)).mono ?_
      clear S
      rintro e w17 ⟨⟨_, rfl, pa, la, Ka, rfl, na⟩, S, H⟩
      refine iv5 H n1 d1 n2 d2 nz ?_; clear n1 d1 n2 d2 nz; intro n1 d1 n2 d2 nz; replace HH := HH.trans H; clear H
      go_wp2_with fail
      refine ho hKK ⟨(S.c 0 2 rfl rfl), (S.c 1 2 rfl rfl)⟩ fun hS => ?_
      clear hKK KK
      refine rd 5 fun KK hKK => ?_
      go_simp; clear hS
      refine (S.call (wnat_any d2 HX.out.2.2 (y.den : Int) rfl)).mono ?_
      clear S
      rintro e w18 ⟨⟨_, rfl, pb, lb, Kb, rfl, nb⟩, S, H⟩
      refine iv6 H n1 d1 n2 d2 nz na ?_; clear n1 d1 n2 d2 nz na; intro n1 d1 n2 d2 nz na; replace HH := HH.trans H; clear H
      go_wp2_with fail
      refine ho hKK ⟨(S.c 0 2 rfl rfl), (S.c 1 2 rfl rfl)⟩ fun hS => ?_
      clear hKK KK
      refine rd 6 fun KK hKK => ?_
      go_simp; clear hS
      refine (S.call (wmul_to ⟨_, _, _, rfl, na⟩ ⟨_, _, _, rfl, nb⟩ HX.out.1.2 HX.out.2.2 D HD.out.2.1 HB.out.2)).mono ?_
      clear S
      rintro e w19 ⟨⟨_, rfl, pd, ld, Kd, rfl, nd⟩, S, H⟩
      refine iv7 H n1 d1 n2 d2 nz na nb ?_; clear n1 d1 n2 d2 nz na nb; intro n1 d1 n2 d2 nz na nb; replace HH := HH.trans H; clear H
      go_wp2_with fail
      refine ho hKK ⟨(S.c 0 2 rfl rfl), (S.c 1 2 rfl rfl)⟩ fun hS => ?_
      clear hKK KK
      refine tk 7 hS ?_
      refine tk 8 hS ?_
      refine tk 9 hS ?_
      refine rd 11 fun KK hKK => ?_
      have c0 := S.c 4 0 rfl rfl; have f0 := S.f 4 0 rfl; have c1 := S.c 4 1 rfl rfl; have f1 := S.f 4 1 rfl; go_simp; clear hS c0 f0 c1 f1
      have H := S.hset 4 0 (.bool (negB D)) rfl rfl (by intro q n e; cases e)
      replace S := S.set 4 0 (.bool (negB D)) rfl
      refine iv8 H n1 d1 n2 d2 nz na nb nd ?_; clear n1 d1 n2 d2 nz na nb nd; intro n1 d1 n2 d2 nz na nb nd; replace HH := HH.trans H; clear H
      have H := S.hset 4 1 (.slice pd ld Kd) rfl rfl (by intro q n e; cases e)
      replace S := S.set 4 1 (.slice pd ld Kd) rfl
      refine iv8 H n1 d1 n2 d2 nz na nb nd ?_; clear n1 d1 n2 d2 nz na nb nd; intro n1 d1 n2 d2 nz na nb nd; replace HH := HH.trans H; clear H
      refine ho hKK ⟨(S.c 0 2 rfl rfl), (S.c 1 2 rfl rfl)⟩ fun hS => ?_
      generalize ((w19.setCell ⟨w3.heap.size, 0, none⟩ (.bool (negB D))).setCell ⟨w3.heap.size, 1, none⟩ (.slice pd ld Kd)) = w20 at S n1 d1 n2 d2 nz na nb nd HH hS ⊢
      clear hKK KK
      refine rd 12 fun KK hKK => ?_
      go_simp
      refine ho hKK hS fun hS => ?_
      clear hKK KK
      refine wpAnyH_done (by kernel_rfl) ?_ _
      go_wp2_with fail
      go_meet
      case rel => exact ⟨w3.heap.size, pd, ld, Kd, rfl, rfl, S, nd, HH⟩
  case rest =>
    obtain ⟨g8, pd, ld, Kd, rfl, rfl, S, nd, HH⟩ := hcut
    obtain ⟨w21, rfl⟩ : ∃ W : World, W = wc := ⟨_, rfl⟩
    refine iv5 HH n1 d1 n2 d2 nz ?_; clear n1 d1 n2 d2 nz; intro n1 d1 n2 d2 nz; clear HH; obtain ⟨c0_0, c0_1, c0_2⟩ := S.c3 0 rfl; obtain ⟨c1_0, c1_1, c1_2⟩ := S.c3 1 rfl; obtain ⟨c2_0, c2_1, c2_2⟩ := S.c3 2 rfl; have c3_0 := S.c 3 0 rfl rfl; have c3_1 := S.c 3 1 rfl rfl; have c4_0 := S.c 4 0 rfl rfl; have c4_1 := S.c 4 1 rfl rfl
    go_upto_region 3 with fail
    clear c0_0 c0_1 c0_2 c1_0 c1_1 c1_2 c2_0 c2_1 c2_2 c3_0 c3_1 c4_0 c4_1
    have HH := Hold.drew w21
    refine iv6 HH n1 d1 n2 d2 nz nd ?_; clear n1 d1 n2 d2 nz nd; intro n1 d1 n2 d2 nz nd
    replace S := S.drew
    refine wp_region_held_drew (S := fun W => W.cell? ⟨w1.heap.size, 0, none⟩ = some (.bool (negB Z)) ∧ W.cell? ⟨w1.heap.size, 1, none⟩ = some (.slice pz lz Kz) ∧ W.cell? ⟨g8, 0, none⟩ = some (.bool (negB D)) ∧ W.cell? ⟨g8, 1, none⟩ = some (.slice pd ld Kd)) (by kernel_rfl) ⟨(S.c 3 0 rfl rfl), ⟨(S.c 3 1 rfl rfl), ⟨(S.c 4 0 rfl rfl), (S.c 4 1 rfl rfl)⟩⟩⟩ (fun hS => ?_)
    generalize w21.drew = w22 at S n1 d1 n2 d2 nz nd HH hS ⊢
    refine tk 0 hS ?_
    refine tk 1 hS ?_
    refine tk 2 hS ?_
    refine tk 3 hS ?_
    refine rd 4 fun KK hKK => ?_
    go_simp; clear hS
    have H := S.hnew 33 [.int .i64 0, .int .i64 0]
    replace S := S.al 33 [.int .i64 0, .int .i64 0] (w22.heap.size)
    refine iv6 H n1 d1 n2 d2 nz nd ?_; clear n1 d1 n2 d2 nz nd; intro n1 d1 n2 d2 nz nd; replace HH := HH.trans H; clear H
    refine ho hKK ⟨(S.c 3 0 rfl rfl), ⟨(S.c 3 1 rfl rfl), ⟨(S.c 4 0 rfl rfl), (S.c 4 1 rfl rfl)⟩⟩⟩ fun hS => ?_
    generalize (w22.alloc (.cells #[.int .i64 0, .int .i64 0] 33)) = w23 at S n1 d1 n2 d2 nz nd HH hS ⊢
    clear hKK KK
    refine rd 5 fun KK hKK => ?_
    go_simp; clear hS
    refine (S.call (or_two S 5 rfl)).mono ?_
    clear S
    rintro e w24 ⟨rfl, S, H⟩
    refine iv6 H n1 d1 n2 d2 nz nd ?_; clear n1 d1 n2 d2 nz nd; intro n1 d1 n2 d2 nz nd; replace HH := HH.trans H; clear H
    go_wp2_with fail
    refine ho hKK ⟨(S.c 3 0 rfl rfl), ⟨(S.c 3 1 rfl rfl), ⟨(S.c 4 0 rfl rfl), (S.c 4 1 rfl rfl)⟩⟩⟩ fun hS => ?_
    clear hKK KK
    refine rd 6 fun KK hKK => ?_
    go_simp; clear hS
    refine (S.call (over_any ⟨_, _, _, rfl, nz⟩ ⟨_, _, _, rfl, nd⟩ HB.out.1 HB.out.2 HD.out.2.2.2 q HD.out.2.2.1)).mono ?_
    clear S
    rintro e w25 ⟨⟨_, rfl, b, p, l, K, q', j, J, rfl, hb, nn, dd⟩, S, H⟩
    refine iv6 H n1 d1 n2 d2 nz nd ?_; clear n1 d1 n2 d2 nz nd; intro n1 d1 n2 d2 nz nd; replace HH := HH.trans H; clear H
    go_wp2_with fail
    refine ho hKK ⟨(S.c 3 0 rfl rfl), ⟨(S.c 3 1 rfl rfl), ⟨(S.c 4 0 rfl rfl), (S.c 4 1 rfl rfl)⟩⟩⟩ fun hS => ?_
    clear hKK KK
    refine tk 7 hS ?_
    refine tk 8 hS ?_
    refine rd 9 fun KK hKK => ?_
    obtain ⟨c0, c1, c2⟩ := S.c3 2 rfl; obtain ⟨f0, f1, f2⟩ := S.f3 2 rfl
    go_simp; clear hS c0 f0 c1 f1 c2 f2
    have HP := S.putq 2 (.bool b) (.slice p l K) (.slice q' j J) rfl rfl; have H := HP.2; replace S := HP.1; clear HP
    refine iv8 H n1 d1 n2 d2 nz nd nn dd ?_; clear n1 d1 n2 d2 nz nd nn dd; intro n1 d1 n2 d2 nz nd nn dd; replace HH := HH.trans H; clear H
    refine ho hKK ⟨(S.c 3 0 rfl rfl), ⟨(S.c 3 1 rfl rfl), ⟨(S.c 4 0 rfl rfl), (S.c 4 1 rfl rfl)⟩⟩⟩ fun hS => ?_
    generalize (((w25.setCell ⟨w.heap.size + 1 + 1, 0, none⟩ (.bool b)).setCell ⟨w.heap.size + 1 + 1, 1, none⟩ (.slice p l K)).setCell ⟨w.heap.size + 1 + 1, 2, none⟩ (.slice q' j J)) = w26 at S n1 d1 n2 d2 nz nd nn dd HH hS ⊢
    clear hKK KK
    refine rd 10 fun KK hKK => ?_
    go_simp
    refine ho hKK hS fun hS => ?_
    clear hKK KK
    refine wpAnyH_done (by kernel_rfl) ?_ _
    clear hS HH; obtain ⟨c0_0, c0_1, c0_2⟩ := S.c3 0 rfl; obtain ⟨c1_0, c1_1, c1_2⟩ := S.c3 1 rfl; obtain ⟨c2_0, c2_1, c2_2⟩ := S.c3 2 rfl; have c3_0 := S.c 3 0 rfl rfl; have c3_1 := S.c 3 1 rfl rfl; have c4_0 := S.c 4 0 rfl rfl; have c4_1 := S.c 4 1 rfl rfl; go_wp2_with fail; obtain ⟨d2_0, d2_1, d2_2⟩ := S.c3 2 rfl
    exact bodyPost_ret (v := .tuple #[.agg #[.bool b, .slice p l K, .slice q' j J], .int .i64 0]) (by simp [results, Try.f25, go_sem, d2_0, d2_1, d2_2]) rfl (⟨⟨_, rfl, b, p, l, K, q', j, J, rfl, hb, nn, dd⟩, S.below⟩)
set_option maxRecDepth 100000 in
set_option maxHeartbeats 4000000 in
theorem radd_any {va vb : Value} {x y : Rat} {w : World} (ha : IsRat w va x) (hb : IsRat w vb y) {k1 k2 : Nat} (hx : RB x k1) (hy : RB y k2) (hk : k1 + k2 ≤ 511) (q : Rat) (hq : x + y = q) :
    Calls Try.prog 48 #[va, vb] w fun e w' => (∃ u, e = .returned (.tuple #[u, .int .i64 0]) ∧ IsRat w' u q) ∧ Below w.heap.size w w' := by
  obtain ⟨b1, p1, l1, K1, q1, j1, J1, rfl, hb1, n1, d1⟩ := ha
  obtain ⟨b2, p2, l2, K2, q2, j2, J2, rfl, hb2, n2, d2⟩ := hb
  obtain ⟨X, hX⟩ : ∃ X, x.num * y.den = X := ⟨_, rfl⟩
  obtain ⟨Y, hY⟩ : ∃ Y, y.num * x.den = Y := ⟨_, rfl⟩
  obtain ⟨Z, hZ⟩ : ∃ Z, X + Y = Z := ⟨_, rfl⟩
  obtain ⟨D, hD⟩ : ∃ D, ((x.den * y.den : Nat) : Int) = D := ⟨_, rfl⟩
  have hb := rbz hx hy
  rw [hX, hY] at hb
  have hZb : Z.natAbs < NB (k1 + k2 + 1) := hZ ▸ nbz_add hb.1 hb.2.1
  have hD0 : D ≠ 0 := by rw [← hD]; have := Nat.mul_pos x.den_pos y.den_pos; omega
  have hDb : D.natAbs < maxN := by rw [← hD, Int.natAbs_natCast]; exact nb_max hb.2.2.1 (by omega)
  have hdd : (x.den : Int) * (y.den : Int) = D := by rw [← hD, Int.natCast_mul]
  have hq2 : q = Rat.divInt Z D := by rw [← hq, add_divInt, hX, hY, hZ, hD]
  have HX := Lib.hid (And.intro (rb_max hx (by omega)) (rb_max hy (by omega)))
  have HD := Lib.hid (And.intro hX (And.intro hY (And.intro hZ (And.intro hdd (And.intro hq2 hD0)))))
  have HB := Lib.hid (And.intro (nb_max hb.1 (by omega)) (And.intro (nb_max hb.2.1 (by omega)) (And.intro (nb_max hZb (by omega)) hDb)))
  clear hX hY hZ hD hb hZb hD0 hDb hdd hq hq2 hx hy hk
  have S := (((St.start w).alloc 32 [.bool b1, .slice p1 l1 K1, .slice q1 j1 J1] (w.heap.size)).alloc 32 [.bool b2, .slice p2 l2 K2, .slice q2 j2 J2] (w.heap.size + 1)).alloc 32 [.bool false, .slice none 0 0, .slice none 0 0] (w.heap.size + 1 + 1)
  try simp only [List.cons_append, List.nil_append] at S
  refine iv4 S.hold n1 d1 n2 d2 ?_; clear n1 d1 n2 d2; intro n1 d1 n2 d2
  obtain ⟨c0_0, c0_1, c0_2⟩ := S.c3 0 rfl; obtain ⟨c1_0, c1_1, c1_2⟩ := S.c3 1 rfl; obtain ⟨c2_0, c2_1, c2_2⟩ := S.c3 2 rfl
  go_enter Try.func48, Try.ntmps48
  go_wp2_with fail; clear c0_0 c0_1 c0_2 c1_0 c1_1 c1_2 c2_0 c2_1 c2_2
  refine (S.call (cross_any ⟨b1, p1, l1, K1, q1, j1, J1, rfl, hb1, n1, d1⟩ ⟨b2, p2, l2, K2, q2, j2, J2, rfl, hb2, n2, d2⟩ HX.out.1.1 HX.out.1.2 HX.out.2.1 HX.out.2.2 X Y HD.out.1 HD.out.2.1 HB.out.1 HB.out.2.1)).mono ?_
  clear S
  rintro e w1 ⟨⟨_, _, rfl, ⟨px, lx, Kx, rfl, nx⟩, ⟨py, ly, Ky, rfl, ny⟩⟩, S, H⟩
  refine iv4 H n1 d1 n2 d2 ?_; clear n1 d1 n2 d2; intro n1 d1 n2 d2
  clear H; obtain ⟨c0_0, c0_1, c0_2⟩ := S.c3 0 rfl; obtain ⟨c1_0, c1_1, c1_2⟩ := S.c3 1 rfl; obtain ⟨c2_0, c2_1, c2_2⟩ := S.c3 2 rfl
  have H := S.hnew 30 [.bool (negB X), .slice px lx Kx]
  replace S := S.al 30 [.bool (negB X), .slice px lx Kx] (w1.heap.size)
  refine iv6 H n1 d1 n2 d2 nx ny ?_; clear n1 d1 n2 d2 nx ny; intro n1 d1 n2 d2 nx ny
  clear H
  have H := S.hnew 30 [.bool (negB Y), .slice py ly Ky]
  replace S := S.al 30 [.bool (negB Y), .slice py ly Ky] (w1.heap.size + 1)
  refine iv6 H n1 d1 n2 d2 nx ny ?_; clear n1 d1 n2 d2 nx ny; intro n1 d1 n2 d2 nx ny
  clear H; clear c0_0 c0_1 c0_2 c1_0 c1_1 c1_2 c2_0 c2_1 c2_2; obtain ⟨c0_0, c0_1, c0_2⟩ := S.c3 0 rfl; obtain ⟨c1_0, c1_1, c1_2⟩ := S.c3 1 rfl; obtain ⟨c2_0, c2_1, c2_2⟩ := S.c3 2 rfl; have c3_0 := S.c 3 0 rfl rfl; have c3_1 := S.c 3 1 rfl rfl; have c4_0 := S.c 4 0 rfl rfl; have c4_1 := S.c 4 1 rfl rfl; go_wp2_with fail; clear c0_0 c0_1 c0_2 c1_0 c1_1 c1_2 c2_0 c2_1 c2_2 c3_0 c3_1 c4_0 c4_1
  refine (S.call (wadd_to ⟨_, _, _, rfl, nx⟩ ⟨_, _, _, rfl, ny⟩ HB.out.1 HB.out.2.1 Z HD.out.2.2.1 HB.out.2.2.1)).mono ?_
  clear S
  rintro e w2 ⟨⟨_, rfl, pz, lz, Kz, rfl, nz⟩, S, H⟩
  refine iv6 H n1 d1 n2 d2 nx ny ?_; clear n1 d1 n2 d2 nx ny; intro n1 d1 n2 d2 nx ny
  clear H; obtain ⟨c0_0, c0_1, c0_2⟩ := S.c3 0 rfl; obtain ⟨c1_0, c1_1, c1_2⟩ := S.c3 1 rfl; obtain ⟨c2_0, c2_1, c2_2⟩ := S.c3 2 rfl; have c3_0 := S.c 3 0 rfl rfl; have c3_1 := S.c 3 1 rfl rfl; have c4_0 := S.c 4 0 rfl rfl; have c4_1 := S.c 4 1 rfl rfl
  have H := S.hnew 30 [.bool (negB Z), .slice pz lz Kz]
  replace S := S.al 30 [.bool (negB Z), .slice pz lz Kz] (w2.heap.size)
  refine iv7 H n1 d1 n2 d2 nx ny nz ?_; clear n1 d1 n2 d2 nx ny nz; intro n1 d1 n2 d2 nx ny nz
  clear H; clear c0_0 c0_1 c0_2 c1_0 c1_1 c1_2 c2_0 c2_1 c2_2 c3_0 c3_1 c4_0 c4_1; obtain ⟨c0_0, c0_1, c0_2⟩ := S.c3 0 rfl; obtain ⟨c1_0, c1_1, c1_2⟩ := S.c3 1 rfl; obtain ⟨c2_0, c2_1, c2_2⟩ := S.c3 2 rfl; have c3_0 := S.c 3 0 rfl rfl; have c3_1 := S.c 3 1 rfl rfl; have c4_0 := S.c 4 0 rfl rfl; have c4_1 := S.c 4 1 rfl rfl; have c5_0 := S.c 5 0 rfl rfl; have c5_1 := S.c 5 1 rfl rfl
  go_upto_region 5 with fail
  clear c0_0 c0_1 c0_2 c1_0 c1_1 c1_2 c2_0 c2_1 c2_2 c3_0 c3_1 c4_0 c4_1 c5_0 c5_1
  generalize (w2.alloc (.cells #[.bool (negB Z), .slice pz lz Kz] 30)) = w3 at S n1 d1 n2 d2 nx ny nz ⊢
  go_cut [10, 11] (fun s10 s11 wx => ∃ g10 pd ld Kd, s10 = .pointer (some ⟨g10, 0, none⟩) ∧ s11 = .int .i64 0 ∧ St w wx [(w.heap.size, 32, [.bool b1, .slice p1 l1 K1, .slice q1 j1 J1]), (w.heap.size + 1, 32, [.bool b2, .slice p2 l2 K2, .slice q2 j2 J2]), (w.heap.size + 1 + 1, 32, [.bool false, .slice none 0 0, .slice none 0 0]), (w1.heap.size, 30, [.bool (negB X), .slice px lx Kx]), (w1.heap.size + 1, 30, [.bool (negB Y), .slice py ly Ky]), (w2.heap.size, 30, [.bool (negB Z), .slice pz lz Kz]), (g10, 30, [.bool (negB D), .slice pd ld Kd])] ∧ IsNat wx (.slice pd ld Kd) D.natAbs ∧ Hold w3 wx)
  case first =>
    have HH := Hold.drew w3
    refine iv7 HH n1 d1 n2 d2 nx ny nz ?_; clear n1 d1 n2 d2 nx ny nz; intro n1 d1 n2 d2 nx ny nz
    replace S := S.drew
    refine wp_region_held_drew (S := fun W => W.cell? ⟨w.heap.size, 2, none⟩ = some (.slice q1 j1 J1) ∧ W.cell? ⟨w.heap.size + 1, 2, none⟩ = some (.slice q2 j2 J2)) (by kernel_rfl) ⟨(S.c 0 2 rfl rfl), (S.c 1 2 rfl rfl)⟩ (fun hS => ?_)
    generalize w3.drew = w4 at S n1 d1 n2 d2 nx ny nz HH hS ⊢
    refine tk 0 hS ?_
    refine tk 1 hS ?_
    refine tk 3 hS ?_
    refine tk 4 hS ?_
    refine wpAnyH_ready (rs := [2, 10]) (by kernel_rfl) (by simp) (AllReadyH.cons (opOf rfl) (fun KK hKK => ?_) (AllReadyH.cons (opOf rfl) (fun KK hKK => ?_) AllReadyH.nil))
    ·
      go_simp; clear hS
      refine (S.call (wnat_any d1 HX.out.1.2 (x.den : Int) rfl)).mono ?_
      clear S
      rintro e w5 ⟨⟨_, rfl, pa, la, Ka, rfl, na⟩, S, H⟩
      refine iv7 H n1 d1 n2 d2 nx ny nz ?_; clear n1 d1 n2 d2 nx ny nz; intro n1 d1 n2 d2 nx ny nz; replace HH := HH.trans H; clear H
      go_wp2_with fail
      refine ho hKK ⟨(S.c 0 2 rfl rfl), (S.c 1 2 rfl rfl)⟩ fun hS => ?_
      clear hKK KK
      refine wpAnyH_ready (rs := [5, 10]) (by kernel_rfl) (by simp) (AllReadyH.cons (opOf rfl) (fun KK hKK => ?_) (AllReadyH.cons (opOf rfl) (fun KK hKK => ?_) AllReadyH.nil))
      ·
        go_simp; clear hS
        refine (S.call (wnat_any d2 HX.out.2.2 (y.den : Int) rfl)).mono ?_
        clear S
        rintro e w6 ⟨⟨_, rfl, pb, lb, Kb, rfl, nb⟩, S, H⟩
        refine iv8 H n1 d1 n2 d2 nx ny nz na ?_; clear n1 d1 n2 d2 nx ny nz na; intro n1 d1 n2 d2 nx ny nz na; replace HH := HH.trans H; clear H
        go_wp2_with fail
        refine ho hKK ⟨(S.c 0 2 rfl rfl), (S.c 1 2 rfl rfl)⟩ fun hS => ?_
        clear hKK KK
        refine wpAnyH_ready (rs := [6, 10]) (by kernel_rfl) (by simp) (AllReadyH.cons (opOf rfl) (fun KK hKK => ?_) (AllReadyH.cons (opOf rfl) (fun KK hKK => ?_) AllReadyH.nil))
        ·
          go_simp; clear hS
          refine (S.call (wmul_to ⟨_, _, _, rfl, na⟩ ⟨_, _, _, rfl, nb⟩ HX.out.1.2 HX.out.2.2 D HD.out.2.2.2.1 HB.out.2.2.2)).mono ?_
          clear S
          rintro e w7 ⟨⟨_, rfl, pd, ld, Kd, rfl, nd⟩, S, H⟩
          refine iv8 H n1 d1 n2 d2 nx ny nz na ?_; clear n1 d1 n2 d2 nx ny nz na; intro n1 d1 n2 d2 nx ny nz na; replace nb := nb.hold H; replace HH := HH.trans H; clear H
          go_wp2_with fail
          refine ho hKK ⟨(S.c 0 2 rfl rfl), (S.c 1 2 rfl rfl)⟩ fun hS => ?_
          clear hKK KK
          refine tk 7 hS ?_
          refine tk 8 hS ?_
          refine tk 9 hS ?_
          refine rd 10 fun KK hKK => ?_
          go_simp; clear hS
          have H := S.hnew 30 [.bool false, .slice none 0 0]
          replace S := S.al 30 [.bool false, .slice none 0 0] (w7.heap.size)
          refine iv8 H n1 d1 n2 d2 nx ny nz na ?_; clear n1 d1 n2 d2 nx ny nz na; intro n1 d1 n2 d2 nx ny nz na; refine iv2 H nb nd ?_; clear nb nd; intro nb nd; replace HH := HH.trans H; clear H
          refine ho hKK ⟨(S.c 0 2 rfl rfl), (S.c 1 2 rfl rfl)⟩ fun hS => ?_
          generalize (w7.alloc (.cells #[.bool false, .slice none 0 0] 30)) = w8 at S n1 d1 n2 d2 nx ny nz na nb nd HH hS ⊢
          clear hKK KK
          refine rd 11 fun KK hKK => ?_
          have c0 := S.c 6 0 rfl rfl; have f0 := S.f 6 0 rfl; have c1 := S.c 6 1 rfl rfl; have f1 := S.f 6 1 rfl; go_simp; clear hS c0 f0 c1 f1
          have H := S.hset 6 0 (.bool (negB D)) rfl rfl (by intro q n e; cases e)
          replace S := S.set 6 0 (.bool (negB D)) rfl
          refine iv8 H n1 d1 n2 d2 nx ny nz na ?_; clear n1 d1 n2 d2 nx ny nz na; intro n1 d1 n2 d2 nx ny nz na; refine iv2 H nb nd ?_; clear nb nd; intro nb nd; replace HH := HH.trans H; clear H
          have H := S.hset 6 1 (.slice pd ld Kd) rfl rfl (by intro q n e; cases e)
          replace S := S.set 6 1 (.slice pd ld Kd) rfl
          refine iv8 H n1 d1 n2 d2 nx ny nz na ?_; clear n1 d1 n2 d2 nx ny nz na; intro n1 d1 n2 d2 nx ny nz na; refine iv2 H nb nd ?_; clear nb nd; intro nb nd; replace HH := HH.trans H; clear H
          refine ho hKK ⟨(S.c 0 2 rfl rfl), (S.c 1 2 rfl rfl)⟩ fun hS => ?_
          generalize ((w8.setCell ⟨w7.heap.size, 0, none⟩ (.bool (negB D))).setCell ⟨w7.heap.size, 1, none⟩ (.slice pd ld Kd)) = w9 at S n1 d1 n2 d2 nx ny nz na nb nd HH hS ⊢
          clear hKK KK
          refine rd 12 fun KK hKK => ?_
          go_simp
          refine ho hKK hS fun hS => ?_
          clear hKK KK
          refine wpAnyH_done (by kernel_rfl) ?_ _
          go_wp2_with fail
          go_meet
          case rel => exact ⟨w7.heap.size, pd, ld, Kd, rfl, rfl, S, nd, HH⟩
        ·
          go_simp; clear hS
          have H := S.hnew 30 [.bool false, .slice none 0 0]
          replace S := S.al 30 [.bool false, .slice none 0 0] (w6.heap.size)
          refine iv8 H n1 d1 n2 d2 nx ny nz na ?_; clear n1 d1 n2 d2 nx ny nz na; intro n1 d1 n2 d2 nx ny nz na; replace nb := nb.hold H; replace HH := HH.trans H; clear H
          refine ho hKK ⟨(S.c 0 2 rfl rfl), (S.c 1 2 rfl rfl)⟩ fun hS => ?_
          generalize (w6.alloc (.cells #[.bool false, .slice none 0 0] 30)) = w10 at S n1 d1 n2 d2 nx ny nz na nb HH hS ⊢
          clear hKK KK
          refine rd 6 fun KK hKK => ?_
          go_simp; clear hS
          refine (S.call (wmul_to ⟨_, _, _, rfl, na⟩ ⟨_, _, _, rfl, nb⟩ HX.out.1.2 HX.out.2.2 D HD.out.2.2.2.1 HB.out.2.2.2)).mono ?_
          clear S
          rintro e w11 ⟨⟨_, rfl, pd, ld, Kd, rfl, nd⟩, S, H⟩
          refine iv8 H n1 d1 n2 d2 nx ny nz na ?_; clear n1 d1 n2 d2 nx ny nz na; intro n1 d1 n2 d2 nx ny nz na; replace nb := nb.hold H; replace HH := HH.trans H; clear H
          go_wp2_with fail
          refine ho hKK ⟨(S.c 0 2 rfl rfl), (S.c 1 2 rfl rfl)⟩ fun hS => ?_
          clear hKK KK
          refine tk 7 hS ?_
          refine tk 8 hS ?_
          refine tk 9 hS ?_
          refine rd 11 fun KK hKK => ?_
          have c0 := S.c 6 0 rfl rfl; have f0 := S.f 6 0 rfl; have c1 := S.c 6 1 rfl rfl; have f1 := S.f 6 1 rfl; go_simp; clear hS c0 f0 c1 f1
          have H := S.hset 6 0 (.bool (negB D)) rfl rfl (by intro q n e; cases e)
          replace S := S.set 6 0 (.bool (negB D)) rfl
          refine iv8 H n1 d1 n2 d2 nx ny nz na ?_; clear n1 d1 n2 d2 nx ny nz na; intro n1 d1 n2 d2 nx ny nz na; refine iv2 H nb nd ?_; clear nb nd; intro nb nd; replace HH := HH.trans H; clear H
          have H := S.hset 6 1 (.slice pd ld Kd) rfl rfl (by intro q n e; cases e)
          replace S := S.set 6 1 (.slice pd ld Kd) rfl
          refine iv8 H n1 d1 n2 d2 nx ny nz na ?_; clear n1 d1 n2 d2 nx ny nz na; intro n1 d1 n2 d2 nx ny nz na; refine iv2 H nb nd ?_; clear nb nd; intro nb nd; replace HH := HH.trans H; clear H
          refine ho hKK ⟨(S.c 0 2 rfl rfl), (S.c 1 2 rfl rfl)⟩ fun hS => ?_
          generalize ((w11.setCell ⟨w6.heap.size, 0, none⟩ (.bool (negB D))).setCell ⟨w6.heap.size, 1, none⟩ (.slice pd ld Kd)) = w12 at S n1 d1 n2 d2 nx ny nz na nb nd HH hS ⊢
          clear hKK KK
          refine rd 12 fun KK hKK => ?_
          go_simp
          refine ho hKK hS fun hS => ?_
          clear hKK KK
          refine wpAnyH_done (by kernel_rfl) ?_ _
          go_wp2_with fail
          go_meet
          case rel => exact ⟨w6.heap.size, pd, ld, Kd, rfl, rfl, S, nd, HH⟩
      ·
        go_simp; clear hS
        have H := S.hnew 30 [.bool false, .slice none 0 0]
        replace S := S.al 30 [.bool false, .slice none 0 0] (w5.heap.size)
        refine iv8 H n1 d1 n2 d2 nx ny nz na ?_; clear n1 d1 n2 d2 nx ny nz na; intro n1 d1 n2 d2 nx ny nz na; replace HH := HH.trans H; clear H
        refine ho hKK ⟨(S.c 0 2 rfl rfl), (S.c 1 2 rfl rfl)⟩ fun hS => ?_
        generalize (w5.alloc (.cells #[.bool false, .slice none 0 0] 30)) = w13 at S n1 d1 n2 d2 nx ny nz na HH hS ⊢
        clear hKK KK
        refine rd 5 fun KK hKK => ?_
        go_simp; clear hS
        refine (S.call (wnat_any d2 HX.out.2.2 (y.den : Int) rfl)).mono ?_
        clear S
        rintro e w14 ⟨⟨_, rfl, pb, lb, Kb, rfl, nb⟩, S, H⟩
        refine iv8 H n1 d1 n2 d2 nx ny nz na ?_; clear n1 d1 n2 d2 nx ny nz na; intro n1 d1 n2 d2 nx ny nz na; replace HH := HH.trans H; clear H
        go_wp2_with fail
        refine ho hKK ⟨(S.c 0 2 rfl rfl), (S.c 1 2 rfl rfl)⟩ fun hS => ?_
        clear hKK KK
        refine rd 6 fun KK hKK => ?_
        go_simp; clear hS
        refine (S.call (wmul_to ⟨_, _, _, rfl, na⟩ ⟨_, _, _, rfl, nb⟩ HX.out.1.2 HX.out.2.2 D HD.out.2.2.2.1 HB.out.2.2.2)).mono ?_
        clear S
        rintro e w15 ⟨⟨_, rfl, pd, ld, Kd, rfl, nd⟩, S, H⟩
        refine iv8 H n1 d1 n2 d2 nx ny nz na ?_; clear n1 d1 n2 d2 nx ny nz na; intro n1 d1 n2 d2 nx ny nz na; replace nb := nb.hold H; replace HH := HH.trans H; clear H
        go_wp2_with fail
        refine ho hKK ⟨(S.c 0 2 rfl rfl), (S.c 1 2 rfl rfl)⟩ fun hS => ?_
        clear hKK KK
        refine tk 7 hS ?_
        refine tk 8 hS ?_
        refine tk 9 hS ?_
        refine rd 11 fun KK hKK => ?_
        have c0 := S.c 6 0 rfl rfl; have f0 := S.f 6 0 rfl; have c1 := S.c 6 1 rfl rfl; have f1 := S.f 6 1 rfl; go_simp; clear hS c0 f0 c1 f1
        have H := S.hset 6 0 (.bool (negB D)) rfl rfl (by intro q n e; cases e)
        replace S := S.set 6 0 (.bool (negB D)) rfl
        refine iv8 H n1 d1 n2 d2 nx ny nz na ?_; clear n1 d1 n2 d2 nx ny nz na; intro n1 d1 n2 d2 nx ny nz na; refine iv2 H nb nd ?_; clear nb nd; intro nb nd; replace HH := HH.trans H; clear H
        have H := S.hset 6 1 (.slice pd ld Kd) rfl rfl (by intro q n e; cases e)
        replace S := S.set 6 1 (.slice pd ld Kd) rfl
        refine iv8 H n1 d1 n2 d2 nx ny nz na ?_; clear n1 d1 n2 d2 nx ny nz na; intro n1 d1 n2 d2 nx ny nz na; refine iv2 H nb nd ?_; clear nb nd; intro nb nd; replace HH := HH.trans H; clear H
        refine ho hKK ⟨(S.c 0 2 rfl rfl), (S.c 1 2 rfl rfl)⟩ fun hS => ?_
        generalize ((w15.setCell ⟨w5.heap.size, 0, none⟩ (.bool (negB D))).setCell ⟨w5.heap.size, 1, none⟩ (.slice pd ld Kd)) = w16 at S n1 d1 n2 d2 nx ny nz na nb nd HH hS ⊢
        clear hKK KK
        refine rd 12 fun KK hKK => ?_
        go_simp
        refine ho hKK hS fun hS => ?_
        clear hKK KK
        refine wpAnyH_done (by kernel_rfl) ?_ _
        go_wp2_with fail
        go_meet
        case rel => exact ⟨w5.heap.size, pd, ld, Kd, rfl, rfl, S, nd, HH⟩
    ·
      go_simp; clear hS
      have H := S.hnew 30 [.bool false, .slice none 0 0]
      replace S := S.al 30 [.bool false, .slice none 0 0] (w4.heap.size)
      refine iv7 H n1 d1 n2 d2 nx ny nz ?_; clear n1 d1 n2 d2 nx ny nz; intro n1 d1 n2 d2 nx ny nz; replace HH := HH.trans H; clear H
      refine ho hKK ⟨(S.c 0 2 rfl rfl), (S.c 1 2 rfl rfl)⟩ fun hS => ?_
      generalize (w4.alloc (.cells #[.bool false, .slice none 0 0] 30)) = w17 at S n1 d1 n2 d2 nx ny nz HH hS ⊢
      clear hKK KK
      refine rd 2 fun KK hKK => ?_
      go_simp; clear hS
      refine (S.call (wnat_any d1 HX.out.1.2 (x.den : Int) rfl)).mono ?_
      clear S
      rintro e w18 ⟨⟨_, rfl, pa, la, Ka, rfl, na⟩, S, H⟩
      refine iv7 H n1 d1 n2 d2 nx ny nz ?_; clear n1 d1 n2 d2 nx ny nz; intro n1 d1 n2 d2 nx ny nz; replace HH := HH.trans H; clear H
      go_wp2_with fail
      refine ho hKK ⟨(S.c 0 2 rfl rfl), (S.c 1 2 rfl rfl)⟩ fun hS => ?_
      clear hKK KK
      refine rd 5 fun KK hKK => ?_
      go_simp; clear hS
      refine (S.call (wnat_any d2 HX.out.2.2 (y.den : Int) rfl)).mono ?_
      clear S
      rintro e w19 ⟨⟨_, rfl, pb, lb, Kb, rfl, nb⟩, S, H⟩
      refine iv8 H n1 d1 n2 d2 nx ny nz na ?_; clear n1 d1 n2 d2 nx ny nz na; intro n1 d1 n2 d2 nx ny nz na; replace HH := HH.trans H; clear H
      go_wp2_with fail
      refine ho hKK ⟨(S.c 0 2 rfl rfl), (S.c 1 2 rfl rfl)⟩ fun hS => ?_
      clear hKK KK
      refine rd 6 fun KK hKK => ?_
      go_simp; clear hS
      refine (S.call (wmul_to ⟨_, _, _, rfl, na⟩ ⟨_, _, _, rfl, nb⟩ HX.out.1.2 HX.out.2.2 D HD.out.2.2.2.1 HB.out.2.2.2)).mono ?_
      clear S
      rintro e w20 ⟨⟨_, rfl, pd, ld, Kd, rfl, nd⟩, S, H⟩
      refine iv8 H n1 d1 n2 d2 nx ny nz na ?_; clear n1 d1 n2 d2 nx ny nz na; intro n1 d1 n2 d2 nx ny nz na; replace nb := nb.hold H; replace HH := HH.trans H; clear H
      go_wp2_with fail
      refine ho hKK ⟨(S.c 0 2 rfl rfl), (S.c 1 2 rfl rfl)⟩ fun hS => ?_
      clear hKK KK
      refine tk 7 hS ?_
      refine tk 8 hS ?_
      refine tk 9 hS ?_
      refine rd 11 fun KK hKK => ?_
      have c0 := S.c 6 0 rfl rfl; have f0 := S.f 6 0 rfl; have c1 := S.c 6 1 rfl rfl; have f1 := S.f 6 1 rfl; go_simp; clear hS c0 f0 c1 f1
      have H := S.hset 6 0 (.bool (negB D)) rfl rfl (by intro q n e; cases e)
      replace S := S.set 6 0 (.bool (negB D)) rfl
      refine iv8 H n1 d1 n2 d2 nx ny nz na ?_; clear n1 d1 n2 d2 nx ny nz na; intro n1 d1 n2 d2 nx ny nz na; refine iv2 H nb nd ?_; clear nb nd; intro nb nd; replace HH := HH.trans H; clear H
      have H := S.hset 6 1 (.slice pd ld Kd) rfl rfl (by intro q n e; cases e)
      replace S := S.set 6 1 (.slice pd ld Kd) rfl
      refine iv8 H n1 d1 n2 d2 nx ny nz na ?_; clear n1 d1 n2 d2 nx ny nz na; intro n1 d1 n2 d2 nx ny nz na; refine iv2 H nb nd ?_; clear nb nd; intro nb nd; replace HH := HH.trans H; clear H
      refine ho hKK ⟨(S.c 0 2 rfl rfl), (S.c 1 2 rfl rfl)⟩ fun hS => ?_
      generalize ((w20.setCell ⟨w4.heap.size, 0, none⟩ (.bool (negB D))).setCell ⟨w4.heap.size, 1, none⟩ (.slice pd ld Kd)) = w21 at S n1 d1 n2 d2 nx ny nz na nb nd HH hS ⊢
      clear hKK KK
      refine rd 12 fun KK hKK => ?_
      go_simp
      refine ho hKK hS fun hS => ?_
      clear hKK KK
      refine wpAnyH_done (by kernel_rfl) ?_ _
      go_wp2_with fail
      go_meet
      case rel => exact ⟨w4.heap.size, pd, ld, Kd, rfl, rfl, S, nd, HH⟩
  case rest =>
    obtain ⟨g10, pd, ld, Kd, rfl, rfl, S, nd, HH⟩ := hcut
    obtain ⟨w22, rfl⟩ : ∃ W : World, W = wc := ⟨_, rfl⟩
    refine iv7 HH n1 d1 n2 d2 nx ny nz ?_; clear n1 d1 n2 d2 nx ny nz; intro n1 d1 n2 d2 nx ny nz; clear HH; obtain ⟨c0_0, c0_1, c0_2⟩ := S.c3 0 rfl; obtain ⟨c1_0, c1_1, c1_2⟩ := S.c3 1 rfl; obtain ⟨c2_0, c2_1, c2_2⟩ := S.c3 2 rfl; have c3_0 := S.c 3 0 rfl rfl; have c3_1 := S.c 3 1 rfl rfl; have c4_0 := S.c 4 0 rfl rfl; have c4_1 := S.c 4 1 rfl rfl; have c5_0 := S.c 5 0 rfl rfl; have c5_1 := S.c 5 1 rfl rfl; have c6_0 := S.c 6 0 rfl rfl; have c6_1 := S.c 6 1 rfl rfl
    go_upto_region 6 with fail
    clear c0_0 c0_1 c0_2 c1_0 c1_1 c1_2 c2_0 c2_1 c2_2 c3_0 c3_1 c4_0 c4_1 c5_0 c5_1 c6_0 c6_1
    have HH := Hold.drew w22
    refine iv8 HH n1 d1 n2 d2 nx ny nz nd ?_; clear n1 d1 n2 d2 nx ny nz nd; intro n1 d1 n2 d2 nx ny nz nd
    replace S := S.drew
    refine wp_region_held_drew (S := fun W => W.cell? ⟨w2.heap.size, 0, none⟩ = some (.bool (negB Z)) ∧ W.cell? ⟨w2.heap.size, 1, none⟩ = some (.slice pz lz Kz) ∧ W.cell? ⟨g10, 0, none⟩ = some (.bool (negB D)) ∧ W.cell? ⟨g10, 1, none⟩ = some (.slice pd ld Kd)) (by kernel_rfl) ⟨(S.c 5 0 rfl rfl), ⟨(S.c 5 1 rfl rfl), ⟨(S.c 6 0 rfl rfl), (S.c 6 1 rfl rfl)⟩⟩⟩ (fun hS => ?_)
    generalize w22.drew = w23 at S n1 d1 n2 d2 nx ny nz nd HH hS ⊢
    refine tk 0 hS ?_
    refine tk 1 hS ?_
    refine tk 2 hS ?_
    refine tk 3 hS ?_
    refine rd 4 fun KK hKK => ?_
    go_simp; clear hS
    have H := S.hnew 33 [.int .i64 0, .int .i64 0]
    replace S := S.al 33 [.int .i64 0, .int .i64 0] (w23.heap.size)
    refine iv8 H n1 d1 n2 d2 nx ny nz nd ?_; clear n1 d1 n2 d2 nx ny nz nd; intro n1 d1 n2 d2 nx ny nz nd; replace HH := HH.trans H; clear H
    refine ho hKK ⟨(S.c 5 0 rfl rfl), ⟨(S.c 5 1 rfl rfl), ⟨(S.c 6 0 rfl rfl), (S.c 6 1 rfl rfl)⟩⟩⟩ fun hS => ?_
    generalize (w23.alloc (.cells #[.int .i64 0, .int .i64 0] 33)) = w24 at S n1 d1 n2 d2 nx ny nz nd HH hS ⊢
    clear hKK KK
    refine rd 5 fun KK hKK => ?_
    go_simp; clear hS
    refine (S.call (or_two S 7 rfl)).mono ?_
    clear S
    rintro e w25 ⟨rfl, S, H⟩
    refine iv8 H n1 d1 n2 d2 nx ny nz nd ?_; clear n1 d1 n2 d2 nx ny nz nd; intro n1 d1 n2 d2 nx ny nz nd; replace HH := HH.trans H; clear H
    go_wp2_with fail
    refine ho hKK ⟨(S.c 5 0 rfl rfl), ⟨(S.c 5 1 rfl rfl), ⟨(S.c 6 0 rfl rfl), (S.c 6 1 rfl rfl)⟩⟩⟩ fun hS => ?_
    clear hKK KK
    refine rd 6 fun KK hKK => ?_
    go_simp; clear hS
    refine (S.call (over_any ⟨_, _, _, rfl, nz⟩ ⟨_, _, _, rfl, nd⟩ HB.out.2.2.1 HB.out.2.2.2 HD.out.2.2.2.2.2 q HD.out.2.2.2.2.1)).mono ?_
    clear S
    rintro e w26 ⟨⟨_, rfl, b, p, l, K, q', j, J, rfl, hb, nn, dd⟩, S, H⟩
    refine iv8 H n1 d1 n2 d2 nx ny nz nd ?_; clear n1 d1 n2 d2 nx ny nz nd; intro n1 d1 n2 d2 nx ny nz nd; replace HH := HH.trans H; clear H
    go_wp2_with fail
    refine ho hKK ⟨(S.c 5 0 rfl rfl), ⟨(S.c 5 1 rfl rfl), ⟨(S.c 6 0 rfl rfl), (S.c 6 1 rfl rfl)⟩⟩⟩ fun hS => ?_
    clear hKK KK
    refine tk 7 hS ?_
    refine tk 8 hS ?_
    refine rd 9 fun KK hKK => ?_
    obtain ⟨c0, c1, c2⟩ := S.c3 2 rfl; obtain ⟨f0, f1, f2⟩ := S.f3 2 rfl
    go_simp; clear hS c0 f0 c1 f1 c2 f2
    have HP := S.putq 2 (.bool b) (.slice p l K) (.slice q' j J) rfl rfl; have H := HP.2; replace S := HP.1; clear HP
    refine iv8 H n1 d1 n2 d2 nx ny nz nd ?_; clear n1 d1 n2 d2 nx ny nz nd; intro n1 d1 n2 d2 nx ny nz nd; refine iv2 H nn dd ?_; clear nn dd; intro nn dd; replace HH := HH.trans H; clear H
    refine ho hKK ⟨(S.c 5 0 rfl rfl), ⟨(S.c 5 1 rfl rfl), ⟨(S.c 6 0 rfl rfl), (S.c 6 1 rfl rfl)⟩⟩⟩ fun hS => ?_
    generalize (((w26.setCell ⟨w.heap.size + 1 + 1, 0, none⟩ (.bool b)).setCell ⟨w.heap.size + 1 + 1, 1, none⟩ (.slice p l K)).setCell ⟨w.heap.size + 1 + 1, 2, none⟩ (.slice q' j J)) = w27 at S n1 d1 n2 d2 nx ny nz nd nn dd HH hS ⊢
    clear hKK KK
    refine rd 10 fun KK hKK => ?_
    go_simp
    refine ho hKK hS fun hS => ?_
    clear hKK KK
    refine wpAnyH_done (by kernel_rfl) ?_ _
    clear hS HH; obtain ⟨c0_0, c0_1, c0_2⟩ := S.c3 0 rfl; obtain ⟨c1_0, c1_1, c1_2⟩ := S.c3 1 rfl; obtain ⟨c2_0, c2_1, c2_2⟩ := S.c3 2 rfl; have c3_0 := S.c 3 0 rfl rfl; have c3_1 := S.c 3 1 rfl rfl; have c4_0 := S.c 4 0 rfl rfl; have c4_1 := S.c 4 1 rfl rfl; have c5_0 := S.c 5 0 rfl rfl; have c5_1 := S.c 5 1 rfl rfl; have c6_0 := S.c 6 0 rfl rfl; have c6_1 := S.c 6 1 rfl rfl; go_wp2_with fail; obtain ⟨d2_0, d2_1, d2_2⟩ := S.c3 2 rfl
    exact bodyPost_ret (v := .tuple #[.agg #[.bool b, .slice p l K, .slice q' j J], .int .i64 0]) (by simp [results, Try.f48, go_sem, d2_0, d2_1, d2_2]) rfl (⟨⟨_, rfl, b, p, l, K, q', j, J, rfl, hb, nn, dd⟩, S.below⟩)
def sumR (Z : Nat → Rat) : Nat → Rat
  | 0 => 0
  | k + 1 => sumR Z k + Z k
theorem rb_zero : RB 0 1 := ⟨by show Int.natAbs 0 < _; exact NB_pos 1, by show 1 < NB 1; rw [NB_one]; decide⟩
theorem rb_sum {Z : Nat → Rat} {n c : Nat} (h : ∀ j, j < n → RB (Z j) c) : ∀ j, j ≤ n → RB (sumR Z j) ((c + 1) * j + 1)
  | 0, _ => rb_zero
  | j + 1, hj => by
    have h1 := rb_add (rb_sum h j (by omega)) (h j (by omega))
    exact h1.mono (by rw [Nat.mul_add]; omega)
def RatsAt (w : World) (g n : Nat) (B : Nat → Bool) (P P' : Nat → Option Addr) (l l' K K' : Nat → Nat) (Z : Nat → Rat) : Prop :=
  g < w.heap.size ∧ ∀ j, j < n → w.cell? ⟨g, j * 3, none⟩ = some (.bool (B j)) ∧ w.cell? ⟨g, j * 3 + 1, none⟩ = some (.slice (P j) (l j) (K j)) ∧ w.cell? ⟨g, j * 3 + 2, none⟩ = some (.slice (P' j) (l' j) (K' j)) ∧ negB (Z j).num = B j ∧ IsNat w (.slice (P j) (l j) (K j)) (Z j).num.natAbs ∧ IsNat w (.slice (P' j) (l' j) (K' j)) (Z j).den
set_option maxRecDepth 100000 in
set_option maxHeartbeats 2000000 in
theorem rsum_any (g n : Nat) (B : Nat → Bool) (P P' : Nat → Option Addr) (l l' K K' : Nat → Nat) (Z : Nat → Rat) (w : World) (h : RatsAt w g n B P P' l l' K K' Z) (c : Nat) (hZ : ∀ j, j < n → RB (Z j) c) (hn : n ≤ 100) (hc : (c + 1) * n + 1 + c ≤ 511) :
    Calls Try.prog 27 #[.slice (some ⟨g, 0, none⟩) n n] w fun e w' => (∃ u, e = .returned (.tuple #[u, .int .i64 0]) ∧ IsRat w' u (sumR Z n)) ∧ Below w.heap.size w w' := by
  have HZ := Lib.hid (And.intro hZ (And.intro (rb_sum hZ) hc))
  have HI := Lib.hid h
  clear hZ hc h
  have S := (St.start w).alloc 32 [.bool false, .slice none 0 0, .slice none 0 0] (w.heap.size)
  try simp only [List.nil_append] at S
  obtain ⟨c0_0, c0_1, c0_2⟩ := S.c3 0 rfl
  go_enter Try.func27, Try.ntmps27
  go_wp2_with fail; clear c0_0 c0_1 c0_2
  refine (S.call (rzero_any _)).mono ?_
  clear S
  rintro e w1 ⟨⟨_, rfl, bz, pz, lz, Kz, qz, jz, Jz, rfl, hbz, nz, dz⟩, S, H⟩
  clear H; obtain ⟨c0_0, c0_1, c0_2⟩ := S.c3 0 rfl
  have H := S.hnew 32 [.bool bz, .slice pz lz Kz, .slice qz jz Jz]
  replace S := S.al 32 [.bool bz, .slice pz lz Kz, .slice qz jz Jz] (w1.heap.size)
  replace nz := nz.hold H; replace dz := dz.hold H
  clear H; go_wp2_with fail; clear c0_0 c0_1 c0_2
  go_loopw [11] (fun si wr => ∃ k : Nat, k ≤ n ∧ si = .int .i64 k ∧ ∃ b p l1 K1 q j J, Hid (negB (sumR Z k).num = b) ∧ IsNat wr (.slice p l1 K1) (sumR Z k).num.natAbs ∧ IsNat wr (.slice q j J) (sumR Z k).den ∧ St w wr [(w.heap.size, 32, [.bool false, .slice none 0 0, .slice none 0 0]), (w1.heap.size, 32, [.bool b, .slice p l1 K1, .slice q j J])]) (fun si _ => n - (intOf si).toNat)
  case atStart => exact ⟨0, by omega, rfl, _, _, _, _, _, _, _, hbz, nz, dz, S⟩
  case round =>
    clear nz dz S
    obtain ⟨k, hk, rfl, b, p, l1, K1, q, j, J, hb, nn, dd, S⟩ := hrel
    by_cases hlt : k < n
    · have hI := HI.out.2 k hlt
      have hgb := HI.out.1
      have a0 := (S.below.cell (p := ⟨g, k * 3, none⟩) hgb).trans hI.1
      have a1 := (S.below.cell (p := ⟨g, k * 3 + 1, none⟩) hgb).trans hI.2.1
      have a2 := (S.below.cell (p := ⟨g, k * 3 + 2, none⟩) hgb).trans hI.2.2.1
      have na := hI.2.2.2.2.1.below S.below (Nat.le_refl _)
      have da := hI.2.2.2.2.2.below S.below (Nat.le_refl _)
      have HBk := Lib.hid hI.2.2.2.1
      have HL := Lib.hid hlt
      have hki : (k : Int) < ((n : Nat) : Int) := by omega
      clear hI hgb hlt
      have H := S.hnew 32 [.bool (B k), .slice (P k) (l k) (K k), .slice (P' k) (l' k) (K' k)]
      replace S := S.al 32 [.bool (B k), .slice (P k) (l k) (K k), .slice (P' k) (l' k) (K' k)] (wr.heap.size)
      refine iv4 H nn dd na da ?_; clear nn dd na da; intro nn dd na da
      clear H; obtain ⟨c0_0, c0_1, c0_2⟩ := S.c3 0 rfl; obtain ⟨c1_0, c1_1, c1_2⟩ := S.c3 1 rfl; obtain ⟨c2_0, c2_1, c2_2⟩ := S.c3 2 rfl; go_wp2_with fail; clear c0_0 c0_1 c0_2 c1_0 c1_1 c1_2 c2_0 c2_1 c2_2
      refine (S.call (radd_any ⟨b, p, l1, K1, q, j, J, rfl, hb, nn, dd⟩ ⟨B k, P k, l k, K k, P' k, l' k, K' k, rfl, HBk.out, na, da⟩ (HZ.out.2.1 k hk) (HZ.out.1 k HL.out) (by have := HZ.out.2.2; have := Nat.mul_le_mul_left (c + 1) hk; omega) (sumR Z (k + 1)) rfl)).mono ?_
      clear S
      rintro e w21 ⟨⟨_, rfl, b2, p2, l2, K2, q2, j2, J2, rfl, hb2, n2, d2⟩, S, H⟩
      refine iv4 H nn dd na da ?_; clear nn dd na da; intro nn dd na da
      clear H; obtain ⟨c0_0, c0_1, c0_2⟩ := S.c3 0 rfl; obtain ⟨c1_0, c1_1, c1_2⟩ := S.c3 1 rfl; obtain ⟨c2_0, c2_1, c2_2⟩ := S.c3 2 rfl
      obtain ⟨f1_0, f1_1, f1_2⟩ := S.f3 1 rfl
      have HP := S.putq 1 (.bool b2) (.slice p2 l2 K2) (.slice q2 j2 J2) rfl rfl; have H := HP.2; replace S := HP.1; clear HP
      refine iv6 H nn dd na da n2 d2 ?_; clear nn dd na da n2 d2; intro nn dd na da n2 d2
      clear H; go_wp2_with fail
      replace S := S.take 2 (L := [(w.heap.size, 32, [.bool false, .slice none 0 0, .slice none 0 0]), (w1.heap.size, 32, [.bool b2, .slice p2 l2 K2, .slice q2 j2 J2])]) rfl
      go_roundw
      case rel => exact ⟨k + 1, HL.out, by go_num, _, _, _, _, _, _, _, hb2, n2, d2, S⟩
      case measure => have := HL.out; simp [intOf]; omega
    · have hki : ¬ (k : Int) < ((n : Nat) : Int) := by omega
      have HK := Lib.hid (show k = n by omega)
      clear hlt; obtain ⟨c0_0, c0_1, c0_2⟩ := S.c3 0 rfl; obtain ⟨c1_0, c1_1, c1_2⟩ := S.c3 1 rfl
      obtain ⟨f0_0, f0_1, f0_2⟩ := S.f3 0 rfl
      have HP := S.putq 0 (.bool b) (.slice p l1 K1) (.slice q j J) rfl rfl; have H := HP.2; replace S := HP.1; clear HP
      replace nn := nn.hold H; replace dd := dd.hold H
      clear H; go_wp2_with fail; obtain ⟨d0_0, d0_1, d0_2⟩ := S.c3 0 rfl
      exact bodyPost_ret (v := .tuple #[.agg #[.bool b, .slice p l1 K1, .slice q j J], .int .i64 0]) (by simp [results, Try.f27, go_sem, d0_0, d0_1, d0_2]) rfl (⟨⟨_, rfl, by rw [← HK.out]; exact ⟨b, p, l1, K1, q, j, J, rfl, hb, nn, dd⟩⟩, S.below⟩)
def sumL : List Rat → Rat
  | [] => 0
  | q :: qs => q + sumL qs
theorem sumL_snoc : ∀ (qs : List Rat) (q : Rat), sumL (qs ++ [q]) = sumL qs + q
  | [], q => by simp only [sumL, List.nil_append]; grind
  | p :: qs, q => by simp [sumL, sumL_snoc qs q, Rat.add_assoc]
theorem sumR_take (qs : List Rat) : ∀ n, n ≤ qs.length → sumR (fun j => qs.getD j 0) n = sumL (qs.take n)
  | 0, _ => by simp [sumR, sumL]
  | n + 1, h => by
    have hq : qs[n]? = some qs[n] := List.getElem?_eq_getElem h
    rw [List.take_add_one, hq, sumR, sumR_take qs n (by omega)]
    simp only [Option.toList_some, sumL_snoc, List.getD, hq, Option.getD_some]
theorem FreshR.at {w W : World} {v : Value} {qs : List Rat} (h : FreshR w W v qs) : ∃ g B P P' l l' K K', v = .slice (some ⟨g, 0, none⟩) qs.length qs.length ∧ RatsAt W g qs.length B P P' l l' K K' (fun j => qs.getD j 0) := by
  obtain ⟨g, vs, e, hg, hh, hr⟩ := h
  have ha := ArrAt.of_heap hh
  have each : ∀ j, j < qs.length → ∃ t : Bool × (Option Addr × Nat × Nat) × Option Addr × Nat × Nat, W.cell? ⟨g, j * 3, none⟩ = some (.bool t.1) ∧ W.cell? ⟨g, j * 3 + 1, none⟩ = some (.slice t.2.1.1 t.2.1.2.1 t.2.1.2.2) ∧ W.cell? ⟨g, j * 3 + 2, none⟩ = some (.slice t.2.2.1 t.2.2.2.1 t.2.2.2.2) ∧ negB (qs.getD j 0).num = t.1 ∧
      IsNat W (.slice t.2.1.1 t.2.1.2.1 t.2.1.2.2) (qs.getD j 0).num.natAbs ∧ IsNat W (.slice t.2.2.1 t.2.2.2.1 t.2.2.2.2) (qs.getD j 0).den := by
    intro j hj
    have hq : qs[j]? = some qs[j] := List.getElem?_eq_getElem hj
    obtain ⟨v0, v1, v2, e0, e1, e2, b, p, l, K, p', l', K', rfl, rfl, rfl, hb, n1, n2⟩ := hr.get hq
    have a0 := ha _ _ e0
    have a1 := ha _ _ e1
    have a2 := ha _ _ e2
    rw [Nat.zero_add] at a0 a1 a2
    have hd : qs.getD j 0 = qs[j] := by simp [List.getD, hq]
    rw [hd]
    exact ⟨(b, (p, l, K), p', l', K'), a0, a1, a2, hb.out, n1, n2⟩
  have hex : ∃ f : Nat → Bool × (Option Addr × Nat × Nat) × Option Addr × Nat × Nat, ∀ j, j < qs.length → W.cell? ⟨g, j * 3, none⟩ = some (.bool (f j).1) ∧ W.cell? ⟨g, j * 3 + 1, none⟩ = some (.slice (f j).2.1.1 (f j).2.1.2.1 (f j).2.1.2.2) ∧ W.cell? ⟨g, j * 3 + 2, none⟩ = some (.slice (f j).2.2.1 (f j).2.2.2.1 (f j).2.2.2.2) ∧ negB (qs.getD j 0).num = (f j).1 ∧
      IsNat W (.slice (f j).2.1.1 (f j).2.1.2.1 (f j).2.1.2.2) (qs.getD j 0).num.natAbs ∧ IsNat W (.slice (f j).2.2.1 (f j).2.2.2.1 (f j).2.2.2.2) (qs.getD j 0).den :=
    ⟨fun j => if h : j < qs.length then Classical.choose (each j h) else (false, (none, 0, 0), none, 0, 0), fun j hj => by simp only [hj, dif_pos]; exact Classical.choose_spec (each j hj)⟩
  obtain ⟨f, hf⟩ := hex
  exact ⟨g, fun j => (f j).1, fun j => (f j).2.1.1, fun j => (f j).2.2.1, fun j => (f j).2.1.2.1, fun j => (f j).2.2.2.1, fun j => (f j).2.1.2.2, fun j => (f j).2.2.2.2, e, lt_of_heap hh, fun j hj => hf j hj⟩
def dotL (xs ys : List Rat) : Rat := sumL (List.zipWith (· * ·) xs ys)
set_option maxRecDepth 100000 in
set_option maxHeartbeats 4000000 in
theorem vdot_any {va vb : Value} {xs ys : List Rat} {w : World} (ha : Rats w va xs) (hb : Rats w vb ys) (n : Nat) (hla : xs.length = n) (hlb : ys.length = n) (hn : n ≤ 100) {k1 k2 : Nat} (hx : ∀ q, q ∈ xs → RB q k1) (hy : ∀ q, q ∈ ys → RB q k2) (hk : (k1 + k2 + 1) * n + 1 + (k1 + k2) ≤ 511) :
    Calls Try.prog 9 #[va, vb] w fun e w' => (∃ u, e = .returned (.tuple #[u, .int .i64 0]) ∧ IsRat w' u (dotL xs ys)) ∧ Below w.heap.size w w' := by
  have hz : (List.zipWith (· * ·) xs ys).length = n := by simp [hla, hlb]
  have hZ : ∀ j, j < n → RB ((List.zipWith (· * ·) xs ys).getD j 0) (k1 + k2) := by
    intro j hj
    have h1 : xs[j]? = some (xs[j]'(by omega)) := List.getElem?_eq_getElem _
    have h2 : ys[j]? = some (ys[j]'(by omega)) := List.getElem?_eq_getElem _
    have : (List.zipWith (· * ·) xs ys).getD j 0 = xs[j]'(by omega) * ys[j]'(by omega) := by
      simp [List.getD, List.getElem?_zipWith, h1, h2]
    rw [this]
    exact rb_mul (hx _ (List.getElem_mem _)) (hy _ (List.getElem_mem _))
  have HV := Lib.hid (fun (W : World) (hB : Below w.heap.size w W) => vpair_any (ha.to hB) (hb.to hB) n hla hlb (by omega) 25 (· * ·) (fun _ _ _ => by kernel_rfl) (fun W u v k x y h1 h2 hu hv => rmul_any hu hv (hx x (List.mem_of_getElem? h1)) (hy y (List.mem_of_getElem? h2)) (by omega) _ rfl))
  have HZ := Lib.hid (And.intro hZ (And.intro hk (And.intro hz hn)))
  clear ha hb hla hlb hn hx hy hk hz hZ
  have S := (St.start w).alloc 32 [.bool false, .slice none 0 0, .slice none 0 0] (w.heap.size)
  try simp only [List.nil_append] at S
  obtain ⟨c0_0, c0_1, c0_2⟩ := S.c3 0 rfl
  go_enter Try.func9, Try.ntmps9
  go_wp2_with fail; clear c0_0 c0_1 c0_2
  refine (S.call (HV.out _ S.below)).mono ?_
  clear S
  rintro e w1 ⟨⟨v, rfl, hv⟩, S, H⟩
  clear H; obtain ⟨c0_0, c0_1, c0_2⟩ := S.c3 0 rfl
  obtain ⟨g, B, P, P', l, l', K, K', rfl, hat⟩ := hv.at
  rw [HZ.out.2.2.1] at hat ⊢
  have HA := Lib.hid hat
  clear hat hv; go_wp2_with fail; clear c0_0 c0_1 c0_2
  refine (S.call (rsum_any g n B P P' l l' K K' _ _ HA.out (k1 + k2) HZ.out.1 HZ.out.2.2.2 HZ.out.2.1)).mono ?_
  clear S
  rintro e w2 ⟨⟨_, rfl, b1, p1, l1, K1, q1, j1, J1, rfl, h1, n1, d1⟩, S, H⟩
  clear H; obtain ⟨c0_0, c0_1, c0_2⟩ := S.c3 0 rfl
  obtain ⟨f0_0, f0_1, f0_2⟩ := S.f3 0 rfl
  have HP := S.putq 0 (.bool b1) (.slice p1 l1 K1) (.slice q1 j1 J1) rfl rfl; have H := HP.2; replace S := HP.1; clear HP
  replace n1 := n1.hold H; replace d1 := d1.hold H
  clear H; go_wp2_with fail
  have e : sumR (fun j => (List.zipWith (· * ·) xs ys).getD j 0) n = dotL xs ys := by
    rw [sumR_take _ n (by rw [HZ.out.2.2.1]; exact Nat.le_refl _), List.take_of_length_le (by rw [HZ.out.2.2.1]; exact Nat.le_refl _)]
    rfl
  rw [e] at h1 n1 d1
  clear c0_0 c0_1 c0_2 f0_0 f0_1 f0_2; go_wp2_with fail; obtain ⟨d0_0, d0_1, d0_2⟩ := S.c3 0 rfl
  exact bodyPost_ret (v := .tuple #[.agg #[.bool b1, .slice p1 l1 K1, .slice q1 j1 J1], .int .i64 0]) (by simp [results, Try.f9, go_sem, d0_0, d0_1, d0_2]) rfl (⟨⟨_, rfl, b1, p1, l1, K1, q1, j1, J1, rfl, h1, n1, d1⟩, S.below⟩)
theorem sumR_mul (f : Nat → Rat) (c : Rat) : ∀ n, sumR f n * c = sumR (fun j => f j * c) n
  | 0 => by simp [sumR]
  | n + 1 => by rw [sumR, sumR, Rat.add_mul, sumR_mul f c n]
theorem sumR_add (f g : Nat → Rat) : ∀ n, sumR f n + sumR g n = sumR (fun j => f j + g j) n
  | 0 => by simp only [sumR]; exact Rat.add_zero 0
  | n + 1 => by rw [sumR, sumR, sumR, ← sumR_add f g n]; grind
theorem sumR_nought : ∀ n, sumR (fun _ => 0) n = 0
  | 0 => by simp [sumR]
  | n + 1 => by rw [sumR, sumR_nought n]; grind
theorem sumR_swap (g : Nat → Nat → Rat) (m : Nat) : ∀ n, sumR (fun i => sumR (fun j => g i j) m) n = sumR (fun j => sumR (fun i => g i j) n) m
  | 0 => by simp only [sumR]; exact (sumR_nought m).symm
  | n + 1 => by
    rw [sumR, sumR_swap g m n, sumR_add]
    rfl
theorem sumR_same {f g : Nat → Rat} : ∀ {n : Nat}, (∀ j, j < n → f j = g j) → sumR f n = sumR g n
  | 0, _ => rfl
  | n + 1, h => by rw [sumR, sumR, sumR_same fun j hj => h j (by omega), h n (by omega)]
theorem dotL_sum {n : Nat} {xs ys : List Rat} (hx : xs.length = n) (hy : ys.length = n) : dotL xs ys = sumR (fun j => xs.getD j 0 * ys.getD j 0) n := by
  have hz : (List.zipWith (· * ·) xs ys).length = n := by simp [hx, hy]
  unfold dotL
  rw [show sumL (List.zipWith (· * ·) xs ys) = sumL ((List.zipWith (· * ·) xs ys).take n) by rw [List.take_of_length_le (by omega)], ← sumR_take _ n (by omega)]
  refine sumR_same fun j hj => ?_
  have h1 : xs[j]? = some (xs[j]'(by omega)) := List.getElem?_eq_getElem _
  have h2 : ys[j]? = some (ys[j]'(by omega)) := List.getElem?_eq_getElem _
  simp [List.getD, List.getElem?_zipWith, h1, h2]
def onL (A : List (List Rat)) (xs : List Rat) : List Rat := A.map fun r => dotL r xs
theorem onL_len (A : List (List Rat)) (xs : List Rat) : (onL A xs).length = A.length := by simp [onL]
def turnL (A : List (List Rat)) : List (List Rat) := (List.range A.length).map (colL A)
theorem turnL_len (A : List (List Rat)) : (turnL A).length = A.length := by simp [turnL]
theorem onL_getD {A : List (List Rat)} {xs : List Rat} {i : Nat} (hi : i < A.length) : (onL A xs).getD i 0 = dotL (A.getD i []) xs := by simp [onL, List.getD, hi]
theorem turnL_getD {A : List (List Rat)} {i : Nat} (hi : i < A.length) : (turnL A).getD i [] = colL A i := by simp [turnL, List.getD, hi]
theorem turn_dot {n : Nat} {A : List (List Rat)} {xs ys : List Rat} (hA : A.length = n) (hm : ∀ r, r ∈ A → r.length = n) (hx : xs.length = n) (hy : ys.length = n) : dotL (onL A xs) ys = dotL xs (onL (turnL A) ys) := by
  rw [dotL_sum (by rw [onL_len, hA]) hy, dotL_sum hx (by rw [onL_len, turnL_len, hA])]
  have e1 : ∀ i, i < n → (onL A xs).getD i 0 * ys.getD i 0 = sumR (fun j => (A.getD i []).getD j 0 * xs.getD j 0 * ys.getD i 0) n := by
    intro i hi
    have hr : (A.getD i []).length = n := by
      have h1 : A[i]? = some (A[i]'(by omega)) := List.getElem?_eq_getElem _
      simp only [List.getD, h1, Option.getD_some]
      exact hm _ (List.getElem_mem _)
    rw [onL_getD (by omega), dotL_sum hr hx, sumR_mul]
  have e2 : ∀ j, j < n → xs.getD j 0 * (onL (turnL A) ys).getD j 0 = sumR (fun i => (A.getD i []).getD j 0 * xs.getD j 0 * ys.getD i 0) n := by
    intro j hj
    rw [onL_getD (by rw [turnL_len]; omega), turnL_getD (by omega), dotL_sum (by rw [colL_len, hA]) hy, Rat.mul_comm, sumR_mul]
    refine sumR_same fun i hi => ?_
    have h1 : A[i]? = some (A[i]'(by omega)) := List.getElem?_eq_getElem _
    have h2 : (colL A j).getD i 0 = (A.getD i []).getD j 0 := by
      rw [List.getD, colL_get h1 j]
      simp [List.getD, h1]
    rw [h2]
    grind
  rw [sumR_same e1, sumR_same e2]
  exact sumR_swap _ n n
set_option maxRecDepth 100000 in
set_option maxHeartbeats 1000000 in
theorem or_list (g n : Nat) (E : Nat → Int) (w : World) (hg : g < w.heap.size) (hn : n ≤ 1000) (hs : ∀ j, j < n → w.cell? ⟨g, j, none⟩ = some (.int .i64 (E j))) :
    Calls Try.prog 15 #[.slice (some ⟨g, 0, none⟩) n n] w fun e w' => (∃ r, e = .returned (.int .i64 r) ∧ Hid (r = 0 → ∀ j, j < n → E j = 0)) ∧ Below w.heap.size w w' := by
  have HS := Lib.hid hs
  clear hs
  have S := St.start w
  go_enter Try.func15, Try.ntmps15
  go_wp2_with fail
  go_loopw [8] (fun si wr => ∃ k : Nat, k ≤ n ∧ si = .int .i64 k ∧ Hid (∀ j, j < k → E j = 0) ∧ St w wr []) (fun si _ => n - (intOf si).toNat)
  case atStart => exact ⟨0, by omega, rfl, fun j hj => by omega, S⟩
  case round =>
    obtain ⟨k, hk, rfl, hz, S⟩ := hrel
    by_cases hlt : k < n
    · have a0 := (S.below.cell (p := ⟨g, k, none⟩) hg).trans (HS.out k hlt)
      have HL := Lib.hid hlt
      have hki : (k : Int) < ((n : Nat) : Int) := by omega
      obtain ⟨ek, hek⟩ : ∃ ek, E k = ek := ⟨_, rfl⟩
      have HE := Lib.hid hek
      rw [hek] at a0
      clear hlt hek
      by_cases h0 : ek = 0
      · have h0' : (ek != 0) = false := by rw [h0]; rfl
        have H0 := Lib.hid h0
        clear h0; go_wp2_with fail
        go_roundw
        case rel =>
          refine ⟨k + 1, HL.out, by go_num, fun j hj => ?_, S⟩
          by_cases hjk : j = k
          · rw [hjk, HE.out, H0.out]
          · exact hz.out j (by omega)
        case measure => have := HL.out; simp [intOf]; omega
      · have h0' : (ek != 0) = true := by simpa using h0
        have H0 := Lib.hid h0
        clear h0; go_wp2_with fail
        go_ret
        exact ⟨⟨ek, rfl, fun h => absurd h H0.out⟩, S.below⟩
    · have hge : ¬ (k : Int) < ((n : Nat) : Int) := by omega
      have HZ : ∀ j, j < n → E j = 0 := fun j hj => hz.out j (by omega)
      have HZ := Lib.hid HZ
      clear hlt hz
      go_wp2
      go_ret
      exact ⟨⟨0, rfl, fun _ => HZ.out⟩, S.below⟩
theorem or_pair {g : Nat} {w W : World} {L : List (Nat × TypeId × List Value)} (S : St w W L) (i : Nat) {t : TypeId} {c d : Int} (hi : L[i]? = some (g, t, [.int .i64 c, .int .i64 d])) :
    Calls Try.prog 15 #[.slice (some ⟨g, 0, none⟩) 2 2] W fun e w' => (∃ r, e = .returned (.int .i64 r) ∧ Hid (r = 0 → c = 0 ∧ d = 0)) ∧ Below W.heap.size W w' :=
  (or_list g 2 (fun j => [c, d].getD j 0) W (S.lt i hi) (by decide) fun j hj => by
    match j, hj with
    | 0, _ => exact S.c i 0 hi rfl
    | 1, _ => exact S.c i 1 hi rfl).mono fun e w' ⟨⟨r, he, hr⟩, hB⟩ => ⟨⟨r, he, fun h => ⟨hr.out h 0 (by decide), hr.out h 1 (by decide)⟩⟩, hB⟩
theorem check_rawN (p : Option Addr) (K l : Nat) (es : List Nat) (w : World) (hat : At .u32 w p K es) (hl : es.length = l) (h5 : l ≤ 1000000) (c : Int) (hc : ((checkOf es : Nat) : Int) = c) :
    Calls Try.prog 17 #[.slice p l K] w fun e w' => e = .returned (.int .i64 c) ∧ Below w.heap.size w w' := by
  subst hl; subst hc
  exact check_any hat.nums h5
def ValidR (b : Bool) (ds es : List Nat) : Prop := (cut ds = ds ∧ (b = true → ds ≠ [])) ∧ cut es = es ∧ val 4294967296 es ≠ 0 ∧ Nat.gcd (val 4294967296 ds) (val 4294967296 es) = 1
theorem check_cut {es : List Nat} (hl : es.length ≤ 512) (h : ((checkOf es : Nat) : Int) = 0) : cut es = es := by
  have hz : checkOf es = 0 := by omega
  unfold checkOf at hz
  rw [if_neg (by omega)] at hz
  split at hz
  · omega
  · rename_i h2
    have := cut_le es
    exact cut_full es (by omega)
theorem bits_le_one {g : Nat} (h0 : g ≠ 0) (h : ¬ 1 < nbits g) : g = 1 := by
  obtain ⟨h1, h2, h3⟩ := nbits_spec h0
  have : nbits g = 1 := by omega
  rw [this] at h3
  omega
set_option maxRecDepth 100000 in
set_option maxHeartbeats 4000000 in
theorem rcheck_raw (b : Bool) (p p' : Option Addr) (K K' l l' : Nat) (ds es : List Nat) (w : World) (at1 : At .u32 w p K ds) (at2 : At .u32 w p' K' es) (d1 : Dig 4294967296 ds) (d2 : Dig 4294967296 es) (hl : ds.length = l) (hl' : es.length = l') (h5 : l ≤ 512) (h5' : l' ≤ 512) :
    Calls Try.prog 6 #[.agg #[.bool b, .slice p l K, .slice p' l' K']] w fun e w' => (∃ c : Int, e = .returned (.int .i64 c) ∧ Hid (c = 0 → ValidR b ds es)) ∧ Below w.heap.size w w' := by
  obtain ⟨c2, hc2⟩ : ∃ c2 : Int, ((checkOf es : Nat) : Int) = c2 := ⟨_, rfl⟩
  have HD := Lib.hid (And.intro d1 (And.intro d2 (And.intro hl (And.intro hl' (And.intro h5 (And.intro h5' hc2))))))
  clear d1 d2 hl hl' h5 h5' hc2
  have S := (St.start w).alloc 32 [.bool b, .slice p l K, .slice p' l' K'] (w.heap.size)
  try simp only [List.nil_append] at S
  replace at1 := at1.hold S.hold; replace at2 := at2.hold S.hold
  obtain ⟨c0_0, c0_1, c0_2⟩ := S.c3 0 rfl
  go_enter Try.func6, Try.ntmps6
  go_upto_region 1 with fail
  clear c0_0 c0_1 c0_2
  generalize (w.alloc (.cells #[.bool b, .slice p l K, .slice p' l' K'] 32)) = w1 at S at1 at2 ⊢
  have HH := Hold.drew w1
  replace at1 := at1.hold HH; replace at2 := at2.hold HH
  replace S := S.drew
  refine wp_region_held_drew (S := fun W => W.cell? ⟨w.heap.size, 0, none⟩ = some (.bool b) ∧ W.cell? ⟨w.heap.size, 1, none⟩ = some (.slice p l K) ∧ W.cell? ⟨w.heap.size, 2, none⟩ = some (.slice p' l' K')) (by kernel_rfl) (S.c3 0 rfl) (fun hS => ?_)
  generalize w1.drew = w2 at S at1 at2 HH hS ⊢
  refine tk 0 hS ?_
  refine tk 1 hS ?_
  refine tk 3 hS ?_
  refine tk 4 hS ?_
  refine rd 2 fun KK hKK => ?_
  go_simp; clear hS
  refine (S.call (wcheck_raw b p K l ds _ at1 HD.out.1 HD.out.2.2.1 HD.out.2.2.2.2.1)).mono ?_
  clear S
  rintro e w3 ⟨⟨c1, rfl, h1⟩, S, H⟩
  replace at1 := at1.hold H; replace at2 := at2.hold H; replace HH := HH.trans H; clear H
  go_wp2_with fail
  refine ho hKK (S.c3 0 rfl) fun hS => ?_
  clear hKK KK
  refine rd 5 fun KK hKK => ?_
  go_simp; clear hS
  refine (S.call (check_rawN p' K' l' es _ at2 HD.out.2.2.2.1 (by have := HD.out.2.2.2.2.2.1; omega) c2 HD.out.2.2.2.2.2.2)).mono ?_
  clear S
  rintro e w4 ⟨rfl, S, H⟩
  replace at1 := at1.hold H; replace at2 := at2.hold H; replace HH := HH.trans H; clear H
  go_wp2_with fail
  refine ho hKK (S.c3 0 rfl) fun hS => ?_
  clear hKK KK
  refine rd 6 fun KK hKK => ?_
  go_simp; clear hS
  have H := S.hnew 33 [.int .i64 c1, .int .i64 c2]
  replace S := S.al 33 [.int .i64 c1, .int .i64 c2] (w4.heap.size)
  replace at1 := at1.hold H; replace at2 := at2.hold H; replace HH := HH.trans H; clear H
  refine ho hKK (S.c3 0 rfl) fun hS => ?_
  generalize (w4.alloc (.cells #[.int .i64 c1, .int .i64 c2] 33)) = w5 at S at1 at2 HH hS ⊢
  clear hKK KK
  refine rd 7 fun KK hKK => ?_
  go_simp; clear hS
  refine (S.call (or_pair S 1 rfl)).mono ?_
  clear S
  rintro e w6 ⟨⟨r, rfl, hr⟩, S, H⟩
  replace at1 := at1.hold H; replace at2 := at2.hold H; replace HH := HH.trans H; clear H
  go_wp2_with fail
  refine ho hKK (S.c3 0 rfl) fun hS => ?_
  clear hKK KK
  refine rd 8 fun KK hKK => ?_
  go_simp
  refine ho hKK hS fun hS => ?_
  clear hKK KK
  refine wpAnyH_done (by kernel_rfl) ?_ _
  clear hS HH
  by_cases h0 : r = 0
  · have h0' : (r != 0) = false := by rw [h0]; rfl
    obtain ⟨e1, e2⟩ := hr.out h0
    have v1 := h1.out e1
    have v2 := check_cut (by have := HD.out.2.2.2.1; have := HD.out.2.2.2.2.2.1; omega) (HD.out.2.2.2.2.2.2.trans e2)
    have nn : IsNat w6 (.slice p l K) (val 4294967296 ds) := by rw [← HD.out.2.2.1]; exact ⟨ds, at1.nums, ⟨HD.out.1, v1.1⟩, rfl⟩
    have nd : IsNat w6 (.slice p' l' K') (val 4294967296 es) := by rw [← HD.out.2.2.2.1]; exact ⟨es, at2.nums, ⟨HD.out.2.1, v2⟩, rfl⟩
    have m1 : val 4294967296 ds < maxN := Can.len_max ⟨HD.out.1, v1.1⟩ |>.1 (by rw [HD.out.2.2.1]; exact HD.out.2.2.2.2.1)
    have m2 : val 4294967296 es < maxN := Can.len_max ⟨HD.out.2.1, v2⟩ |>.1 (by rw [HD.out.2.2.2.1]; exact HD.out.2.2.2.2.2.1)
    obtain ⟨n, hn⟩ : ∃ n, val 4294967296 ds = n := ⟨_, rfl⟩
    obtain ⟨m, hm⟩ : ∃ m, val 4294967296 es = m := ⟨_, rfl⟩
    rw [hn] at nn m1
    rw [hm] at nd m2
    have HV := Lib.hid (And.intro v1 (And.intro v2 (And.intro hn (And.intro hm (And.intro m1 m2)))))
    obtain ⟨t, ht⟩ : ∃ t, nbits m = t := ⟨_, rfl⟩
    have HT := Lib.hid ht
    clear hr h1 e1 e2 v1 v2 hn hm m1 m2 ht h0; clear at1 at2; obtain ⟨c0_0, c0_1, c0_2⟩ := S.c3 0 rfl; go_wp2_with fail; clear c0_0 c0_1 c0_2
    refine (S.call (bits_nat nd HV.out.2.2.2.2.2 HT.out)).mono ?_
    clear S
    rintro e w7 ⟨rfl, S, H⟩
    replace nn := nn.hold H; replace nd := nd.hold H
    clear H; obtain ⟨c0_0, c0_1, c0_2⟩ := S.c3 0 rfl
    by_cases ht0 : t = 0
    · subst ht0
      go_wp2_with fail
      exact bodyPost_ret (v := .int .i64 2) (by simp [results, Try.f6, go_sem]) rfl (⟨⟨2, rfl, fun h => by cases h⟩, S.below⟩)
    · have htI : ((t : Int) == 0) = false := by simpa using ht0
      have htJ : ¬ (t : Int) = 0 := by omega
      have hm0 : m ≠ 0 := fun e => ht0 (by rw [← HT.out, e]; rfl)
      have HM := Lib.hid hm0
      clear ht0 hm0; go_wp2_with fail; clear c0_0 c0_1 c0_2
      refine (S.call (gcd_any nn nd HV.out.2.2.2.2.1 HV.out.2.2.2.2.2)).mono ?_
      clear S
      rintro e w8 ⟨⟨v, rfl, nv⟩, S, H⟩
      replace nn := nn.hold H; replace nd := nd.hold H
      clear H; obtain ⟨c0_0, c0_1, c0_2⟩ := S.c3 0 rfl
      obtain ⟨u, hu⟩ : ∃ u, nbits (Nat.gcd n m) = u := ⟨_, rfl⟩
      have HU := Lib.hid hu
      have hgm : Nat.gcd n m < maxN := Nat.lt_of_le_of_lt (Nat.gcd_le_right _ (by have := HM.out; omega)) HV.out.2.2.2.2.2
      have HG := Lib.hid hgm
      clear hu hgm; go_wp2_with fail; clear c0_0 c0_1 c0_2
      refine (S.call (bits_nat nv HG.out HU.out)).mono ?_
      clear S
      rintro e w9 ⟨rfl, S, H⟩
      refine iv3 H nn nd nv ?_; clear nn nd nv; intro nn nd nv
      clear H; obtain ⟨c0_0, c0_1, c0_2⟩ := S.c3 0 rfl
      by_cases hu1 : 1 < u
      · have hu1' : (1 : Int) < (u : Int) := by omega
        go_wp2_with fail
        exact bodyPost_ret (v := .int .i64 2) (by simp [results, Try.f6, go_sem]) rfl (⟨⟨2, rfl, fun h => by cases h⟩, S.below⟩)
      · have hu1' : ¬ (1 : Int) < (u : Int) := by omega
        have HOK := Lib.hid (show ValidR b ds es from ⟨HV.out.1, HV.out.2.1, by rw [HV.out.2.2.2.1]; exact HM.out, by rw [HV.out.2.2.1, HV.out.2.2.2.1]; exact bits_le_one (fun e => HM.out (Nat.gcd_eq_zero_iff.1 e).2) (by rw [HU.out]; exact hu1)⟩)
        clear hu1; go_wp2_with fail
        exact bodyPost_ret (v := .int .i64 0) (by simp [results, Try.f6, go_sem]) rfl (⟨⟨0, rfl, fun _ => HOK.out⟩, S.below⟩)
  · have h0' : (r != 0) = true := by simpa using h0
    have H0 := Lib.hid h0
    clear h0; go_wp2_with fail
    exact bodyPost_ret (v := .int .i64 r) (by simp [results, Try.f6, go_sem]) rfl (⟨⟨r, rfl, fun h => absurd h H0.out⟩, S.below⟩)
def TriedR (k : Nat) (b : Bool) (ds es : List Nat) : Prop := ds.length ≤ k ∧ es.length ≤ k ∧ ValidR b ds es
structure RawQ where
  b : Bool
  p : Option Addr
  q : Option Addr
  K : Nat
  J : Nat
  ds : List Nat
  es : List Nat
instance rawQ_inh : Inhabited RawQ := ⟨⟨false, none, none, 0, 0, [], []⟩⟩
def RawQ.cells (x : RawQ) : List Value := [.bool x.b, .slice x.p x.ds.length x.K, .slice x.q x.es.length x.J]
def RawQ.In (w : World) (x : RawQ) : Prop := At .u32 w x.p x.K x.ds ∧ At .u32 w x.q x.J x.es ∧ Dig 4294967296 x.ds ∧ Dig 4294967296 x.es
theorem RawQ.In.hold {w w' : World} {x : RawQ} (H : Hold w w') : x.In w → x.In w'
  | ⟨h1, h2, h3, h4⟩ => ⟨h1.hold H, h2.hold H, h3, h4⟩
instance hdI30 {w w' : World} {x : RawQ} : Hd w w' (x.In w) (x.In w') := ⟨RawQ.In.hold⟩
def Raws (w : World) (v : Value) (xs : List RawQ) : Prop := ∃ p c, v = .slice p xs.length c ∧ (p = none → c = 0) ∧ xs.length ≤ c ∧ ∀ (j : Nat) x, xs[j]? = some x → ∃ g off, p = some ⟨g, off, none⟩ ∧ g < w.heap.size ∧ w.cell? ⟨g, off + j * 3, none⟩ = some (.bool x.b) ∧ w.cell? ⟨g, off + j * 3 + 1, none⟩ = some (.slice x.p x.ds.length x.K) ∧ w.cell? ⟨g, off + j * 3 + 2, none⟩ = some (.slice x.q x.es.length x.J) ∧ x.In w
theorem Raws.to {w w' : World} {v : Value} {xs : List RawQ} (h : Raws w v xs) (hB : Below w.heap.size w w') : Raws w' v xs := by
  obtain ⟨p, c, e, h1, h2, h3⟩ := h
  refine ⟨p, c, e, h1, h2, fun j q hq => ?_⟩
  obtain ⟨g, off, hp, hg, a0, a1, a2, hr⟩ := h3 j q hq
  exact ⟨g, off, hp, Nat.lt_of_lt_of_le hg hB.size, (hB.cell (p := ⟨g, off + j * 3, none⟩) hg).trans a0, (hB.cell (p := ⟨g, off + j * 3 + 1, none⟩) hg).trans a1, (hB.cell (p := ⟨g, off + j * 3 + 2, none⟩) hg).trans a2, hr.hold (Hold.of_below hB)⟩
theorem Raws.form {w : World} {v : Value} {xs : List RawQ} (h : Raws w v xs) : ∃ p c, v = .slice p xs.length c := by
  obtain ⟨p, c, e, _⟩ := h
  exact ⟨p, c, e⟩
theorem Raws.get {w : World} {p : Option Addr} {n c : Nat} {xs : List RawQ} (h : Raws w (.slice p n c) xs) {j : Nat} (hj : j < n) : ∃ g off b p1 l1 K1 p2 l2 K2 ds es, p = some ⟨g, off, none⟩ ∧ g < w.heap.size ∧ w.cell? ⟨g, off + j * 3, none⟩ = some (.bool b) ∧ w.cell? ⟨g, off + j * 3 + 1, none⟩ = some (.slice p1 l1 K1) ∧ w.cell? ⟨g, off + j * 3 + 2, none⟩ = some (.slice p2 l2 K2) ∧
    xs[j]? = some ⟨b, p1, p2, K1, K2, ds, es⟩ ∧ ds.length = l1 ∧ es.length = l2 ∧ At .u32 w p1 K1 ds ∧ At .u32 w p2 K2 es ∧ Dig 4294967296 ds ∧ Dig 4294967296 es := by
  obtain ⟨p', c', e, _, _, h3⟩ := h
  cases e
  have hq : xs[j]? = some (xs[j]'hj) := List.getElem?_eq_getElem _
  obtain ⟨g, off, hp, hg, a0, a1, a2, hr⟩ := h3 j _ hq
  exact ⟨g, off, _, _, _, _, _, _, _, _, _, hp, hg, a0, a1, a2, hq, rfl, rfl, hr.1, hr.2.1, hr.2.2.1, hr.2.2.2⟩
def RawQ.Tried (k : Nat) (x : RawQ) : Prop := TriedR k x.b x.ds x.es
def RawQ.IsQ (k : Nat) (x : RawQ) (q : Rat) : Prop := Hid (negB q.num = x.b) ∧ RB q k ∧ ∀ w, x.In w → IsNat w (.slice x.p x.ds.length x.K) q.num.natAbs ∧ IsNat w (.slice x.q x.es.length x.J) q.den
theorem RawQ.Tried.isQ {k : Nat} {x : RawQ} (h : x.Tried k) (d1 : Dig 4294967296 x.ds) (d2 : Dig 4294967296 x.es) : ∃ q : Rat, x.IsQ k q := by
  obtain ⟨h1, h2, ⟨v1, v2⟩, v3, v4, v5⟩ := h
  have c1 : Can 4294967296 x.ds := ⟨d1, v1⟩
  have c2 : Can 4294967296 x.es := ⟨d2, v3⟩
  have n1 : ∀ w, x.In w → IsNat w (.slice x.p x.ds.length x.K) (val 4294967296 x.ds) := fun w hw => ⟨x.ds, hw.1.nums, c1, rfl⟩
  have n2 : ∀ w, x.In w → IsNat w (.slice x.q x.es.length x.J) (val 4294967296 x.es) := fun w hw => ⟨x.es, hw.2.1.nums, c2, rfl⟩
  have b1 := nb_len c1 h1
  have b2 := nb_len c2 h2
  cases hb : x.b with
  | false =>
    refine ⟨⟨(val 4294967296 x.ds : Nat), val 4294967296 x.es, v4, by simpa [Nat.Coprime] using v5⟩, by rw [hb]; exact negB_neg (by show ¬ (((val 4294967296 x.ds : Nat) : Int) < 0); omega), ⟨by simpa using b1, b2⟩, fun w hw => ⟨by simpa using n1 w hw, n2 w hw⟩⟩
  | true =>
    have h0 : val 4294967296 x.ds ≠ 0 := fun e => v2 hb (c1.eq_nil (by decide) e)
    refine ⟨⟨-((val 4294967296 x.ds : Nat) : Int), val 4294967296 x.es, v4, by simpa [Nat.Coprime] using v5⟩, by rw [hb]; exact negB_pos (by show -((val 4294967296 x.ds : Nat) : Int) < 0; omega), ⟨by simpa using b1, b2⟩, fun w hw => ⟨by simpa using n1 w hw, n2 w hw⟩⟩
def AllQ (k : Nat) (xs : List RawQ) (qs : List Rat) : Prop := xs.length = qs.length ∧ ∀ (j : Nat) x q, xs[j]? = some x → qs[j]? = some q → x.IsQ k q
theorem allQ_ex {k : Nat} : ∀ {xs : List RawQ}, (∀ x, x ∈ xs → x.Tried k ∧ Dig 4294967296 x.ds ∧ Dig 4294967296 x.es) → ∃ qs, AllQ k xs qs
  | [], _ => ⟨[], rfl, fun j x q h => by simp at h⟩
  | x :: xs, h => by
    obtain ⟨qs, hl, hq⟩ := allQ_ex (xs := xs) fun y hy => h y (List.mem_cons_of_mem _ hy)
    obtain ⟨h1, h2, h3⟩ := h x (List.mem_cons_self ..)
    obtain ⟨q, hx⟩ := h1.isQ h2 h3
    refine ⟨q :: qs, by simp [hl], fun j y r hy hr => ?_⟩
    cases j with
    | zero => simp at hy hr; subst hy hr; exact hx
    | succ j => exact hq j y r (by simpa using hy) (by simpa using hr)
theorem AllQ.rb {k : Nat} {xs : List RawQ} {qs : List Rat} (h : AllQ k xs qs) : ∀ q, q ∈ qs → RB q k := fun q hq => by
  obtain ⟨j, hj⟩ := List.getElem?_of_mem hq
  have hl : j < xs.length := by rw [h.1]; exact (List.getElem?_eq_some_iff.1 hj).1
  exact (h.2 j _ q (List.getElem?_eq_getElem hl) hj).2.1
theorem Raws.rats {w : World} {v : Value} {xs : List RawQ} {qs : List Rat} {k : Nat} (h : Raws w v xs) (hq : AllQ k xs qs) : Rats w v qs := by
  obtain ⟨p, c, e, h1, h2, h3⟩ := h
  refine ⟨p, c, by rw [e, hq.1], h1, by rw [← hq.1]; exact h2, fun j q hj => ?_⟩
  have hl : j < xs.length := by rw [hq.1]; exact (List.getElem?_eq_some_iff.1 hj).1
  obtain ⟨g, off, hp, hg, a0, a1, a2, hr⟩ := h3 j _ (List.getElem?_eq_getElem hl)
  have hx := hq.2 j _ q (List.getElem?_eq_getElem hl) hj
  obtain ⟨n1, n2⟩ := hx.2.2 w hr
  exact ⟨g, off, _, _, _, hp, hg, a0, a1, a2, _, _, _, _, _, _, _, rfl, rfl, rfl, hx.1, n1, n2⟩
theorem Raws.dig {w : World} {v : Value} {xs : List RawQ} (h : Raws w v xs) : ∀ x, x ∈ xs → Dig 4294967296 x.ds ∧ Dig 4294967296 x.es := fun x hx => by
  obtain ⟨p, c, _, _, _, h3⟩ := h
  obtain ⟨j, hj⟩ := List.getElem?_of_mem hx
  obtain ⟨_, _, _, _, _, _, _, hr⟩ := h3 j x hj
  exact hr.2.2
set_option maxRecDepth 100000 in
set_option maxHeartbeats 4000000 in
theorem treck_any (n : Nat) (w : World) (hn : n ≤ 1000000) (fid : FuncId) (c1 c2 c3 : Value) (F : Nat → Rat)
    (hcf : ∀ (u : Value) (W : World), Sem.run Try.prog (callFunc fid #[u, c1, c2, c3]) W = .ok (.enter fid #[u, c1, c2, c3]) W)
    (hf : ∀ (W : World) (k : Nat), Below w.heap.size w W → k < n → Calls Try.prog fid #[.int .i64 k, c1, c2, c3] W fun e w' => (∃ r, e = .returned (.tuple #[r, .int .i64 0]) ∧ IsRat w' r (F k)) ∧ Below W.heap.size W w') :
    Calls Try.prog 42 #[.int .i64 n, .func (.func fid) #[] #[c1, c2, c3]] w fun e w' => (∃ v, e = .returned (.tuple #[v, .int .i64 0]) ∧ FreshR w w' v ((List.range n).map F)) ∧ Below w.heap.size w w' := by
  have HI := Lib.hid (And.intro hf hn)
  clear hf
  have S := St.start w
  go_enter Try.func42, Try.ntmps42
  go_upto_region 2 with (at_make; refine make_rats S rfl _ _ rfl _ _ n rfl rfl ?hL ?hC ?hn (fun w3 S3 hB3 => ?_))
  case hL => rfl
  case hC => rfl
  case hn => omega
  simp only [List.nil_append] at S3
  replace S := S3
  clear S3 hB3; go_wp2_with fail
  go_loopw [13] (fun si wr => ∃ k : Nat, k ≤ n ∧ si = .int .i64 k ∧ ∃ vs, RL wr vs ((List.range k).map F) ∧ St w wr [(w.heap.size, 32, vs ++ zr3 (n - k))]) (fun si _ => n - (intOf si).toNat)
  case atStart => exact ⟨0, by omega, rfl, [], trivial, S⟩
  case round =>
    clear S
    obtain ⟨k, hk, rfl, vs, hv, S⟩ := hrel
    by_cases hlt : k < n
    · obtain ⟨r, hr⟩ : ∃ r, n - k = r + 1 := ⟨n - k - 1, by omega⟩
      rw [hr] at S
      have hl : vs.length = k * 3 := by simpa using hv.len
      have HQ := Lib.hid (And.intro hl (And.intro hlt hr))
      have hki : (k : Int) < ((n : Nat) : Int) := by omega
      have hk9 : (k : Int) ≤ 1000000 := by omega
      clear hr hlt hl hk; go_wp2_with fail
      refine (S.call (HI.out.1 _ k S.below HQ.out.2.1)).mono ?_
      rintro e w4 ⟨⟨_, rfl, b9, p9, l9, K9, q9, j9, J9, rfl, h9, n9, d9⟩, S', H⟩
      replace hv := hv.hold H; clear S H
      have f0 := S'.f 0 (k * 3) rfl
      have f1 := S'.f 0 (k * 3 + 1) rfl
      have f2 := S'.f 0 (k * 3 + 2) rfl
      obtain ⟨S, H⟩ := S'.putAt 0 (.bool b9) (.slice p9 l9 K9) (.slice q9 j9 J9) rfl HQ.out.1
      have g0 := S'.c 0 (k * 3) rfl (v := .bool false) (by rw [← HQ.out.1]; simp [zr3])
      have g1 := S'.c 0 (k * 3 + 1) rfl (v := .slice none 0 0) (by rw [← HQ.out.1, List.getElem?_append_right (by omega)]; simp [zr3])
      have g2 := S'.c 0 (k * 3 + 2) rfl (v := .slice none 0 0) (by rw [← HQ.out.1, List.getElem?_append_right (by omega)]; simp [zr3])
      clear S'
      go_upto_region 7 with fail
      have hv2 := (hv.hold H).snoc (q := F k) ⟨b9, p9, l9, K9, q9, j9, J9, rfl, rfl, rfl, h9, n9.hold H, d9.hold H⟩
      clear hv H h9 n9 d9 g0 g1 g2 f0 f1 f2; go_wp2_with fail
      go_roundw
      case rel => exact ⟨k + 1, HQ.out.2.1, by go_num, _, by rw [List.range_succ, List.map_append]; exact hv2, by rw [show n - (k + 1) = r by have := HQ.out.2.2; omega]; exact S⟩
      case measure => have := HQ.out.2.1; simp [intOf]; omega
    · have hki : ¬ (k : Int) < ((n : Nat) : Int) := by omega
      have hkn : k = n := by omega
      subst hkn
      rw [Nat.sub_self] at S
      simp only [zr3, List.append_nil] at S
      clear hlt hk; go_wp2_with fail
      exact bodyPost_ret (v := .tuple #[.slice (some ⟨w.heap.size, 0, none⟩) k k, .int .i64 0]) (by simp [results, Try.f42, go_sem]) rfl (⟨⟨_, rfl, _, vs, by simp, Nat.le_refl _, (S.locs.get 0 rfl).2, hv⟩, S.below⟩)
set_option maxRecDepth 100000 in
set_option maxHeartbeats 4000000 in
theorem timage1_any {vx : Value} {A : List (List Rat)} {xs : List Rat} {w : World} {ga gd gx n c i m k1 k2 : Nat} {p : Option Addr} (hA : Tabs2 w (.slice p n c) A) (hx : Rats w vx xs) (hm : ∀ r, r ∈ A → r.length = m) (hxl : xs.length = m) (hi : i < n) (hm9 : m ≤ 100)
    (hgd : gd < w.heap.size) (e0 : w.cell? ⟨gd, 0, none⟩ = some (.func (.func 9) #[] #[])) (hga : ga < w.heap.size) (e1 : w.cell? ⟨ga, 0, none⟩ = some (.slice p n c)) (hgx : gx < w.heap.size) (e2 : w.cell? ⟨gx, 0, none⟩ = some vx)
    (hr1 : ∀ r, r ∈ A → ∀ q, q ∈ r → RB q k1) (hr2 : ∀ q, q ∈ xs → RB q k2) (hk : (k1 + k2 + 1) * m + 1 + (k1 + k2) ≤ 511) (z : Rat) (hz : dotL (A.getD i []) xs = z) :
    Calls Try.prog 43 #[.int .i64 i, .pointer (some ⟨gd, 0, none⟩), .pointer (some ⟨ga, 0, none⟩), .pointer (some ⟨gx, 0, none⟩)] w fun e w' => (∃ u, e = .returned (.tuple #[u, .int .i64 0]) ∧ IsRat w' u z) ∧ Below w.heap.size w w' := by
  obtain ⟨g, off, row, q, d, rfl, hg, hrow, a0, hR⟩ := hA.get hi
  obtain ⟨p2, c2, rfl⟩ := hx.form
  have hml := hm row (List.mem_of_getElem? hrow)
  rw [hml] at a0 hR
  rw [hxl] at hx e2
  have hz' : dotL row xs = z := by rw [← hz]; simp [List.getD, hrow]
  have HC := Lib.hid (And.intro (And.intro hgd e0) (And.intro (And.intro hga e1) (And.intro (And.intro hg a0) (And.intro hgx e2))))
  have HV := Lib.hid (fun (W : World) (hB : Below w.heap.size w W) => vdot_any (hR.to hB) (hx.to hB) m hml hxl hm9 (hr1 row (List.mem_of_getElem? hrow)) hr2 hk)
  have HZ := Lib.hid hz'
  have hii : (i : Int) < ((n : Nat) : Int) := by omega
  clear hA hx hm hxl hi hm9 hgd e0 hga e1 hgx e2 hr1 hr2 hk hz hg hrow a0 hR hml hz'
  have S := (St.start w).alloc 32 [.bool false, .slice none 0 0, .slice none 0 0] (w.heap.size)
  try simp only [List.nil_append] at S
  obtain ⟨c0_0, c0_1, c0_2⟩ := S.c3 0 rfl
  go_enter Try.func43, Try.ntmps43
  clear c0_0 c0_1 c0_2
  go_upto_region 1 with fail
  replace S := S.drew
  refine wp_region_held_drew (S := fun W => W.cell? ⟨gd, 0, none⟩ = some (.func (.func 9) #[] #[]) ∧ W.cell? ⟨ga, 0, none⟩ = some (.slice (some ⟨g, off, none⟩) n c) ∧ W.cell? ⟨g, off + i, none⟩ = some (.slice q m d) ∧ W.cell? ⟨gx, 0, none⟩ = some (.slice p2 m c2)) (by kernel_rfl) ⟨(S.below.cell (p := ⟨gd, 0, none⟩) HC.out.1.1).trans HC.out.1.2, (S.below.cell (p := ⟨ga, 0, none⟩) HC.out.2.1.1).trans HC.out.2.1.2, (S.below.cell (p := ⟨g, off + i, none⟩) HC.out.2.2.1.1).trans HC.out.2.2.1.2, (S.below.cell (p := ⟨gx, 0, none⟩) HC.out.2.2.2.1).trans HC.out.2.2.2.2⟩ (fun hS => ?_)
  refine tk 0 hS ?_
  refine tk 1 hS ?_
  refine tk 2 hS ?_
  refine tk 3 hS ?_
  refine tk 4 hS ?_
  refine tk 5 hS ?_
  refine rd 6 fun KK hKK => ?_
  go_simp; clear hS
  refine (S.call (HV.out _ S.below)).mono ?_
  clear S
  rintro e w3 ⟨⟨_, rfl, b9, p9, l9, K9, q9, j9, J9, rfl, h9, n9, d9⟩, S, H⟩
  clear H
  rw [HZ.out] at h9 n9 d9
  go_wp2_with fail
  refine ho hKK ⟨(S.below.cell (p := ⟨gd, 0, none⟩) HC.out.1.1).trans HC.out.1.2, (S.below.cell (p := ⟨ga, 0, none⟩) HC.out.2.1.1).trans HC.out.2.1.2, (S.below.cell (p := ⟨g, off + i, none⟩) HC.out.2.2.1.1).trans HC.out.2.2.1.2, (S.below.cell (p := ⟨gx, 0, none⟩) HC.out.2.2.2.1).trans HC.out.2.2.2.2⟩ fun hS => ?_
  clear hKK KK
  refine tk 7 hS ?_
  refine tk 8 hS ?_
  obtain ⟨c0_0, c0_1, c0_2⟩ := S.c3 0 rfl
  obtain ⟨f0_0, f0_1, f0_2⟩ := S.f3 0 rfl
  refine rd 9 fun KK hKK => ?_
  have HP := S.putq 0 (.bool b9) (.slice p9 l9 K9) (.slice q9 j9 J9) rfl rfl
  go_simp
  have H := HP.2; replace S := HP.1; clear HP c0_0 c0_1 c0_2 f0_0 f0_1 f0_2 hS
  replace n9 := n9.hold H; replace d9 := d9.hold H
  clear H
  refine ho hKK ⟨(S.below.cell (p := ⟨gd, 0, none⟩) HC.out.1.1).trans HC.out.1.2, (S.below.cell (p := ⟨ga, 0, none⟩) HC.out.2.1.1).trans HC.out.2.1.2, (S.below.cell (p := ⟨g, off + i, none⟩) HC.out.2.2.1.1).trans HC.out.2.2.1.2, (S.below.cell (p := ⟨gx, 0, none⟩) HC.out.2.2.2.1).trans HC.out.2.2.2.2⟩ fun hS => ?_
  clear hKK KK
  refine rd 10 fun KK hKK => ?_
  go_simp
  refine ho hKK ⟨(S.below.cell (p := ⟨gd, 0, none⟩) HC.out.1.1).trans HC.out.1.2, (S.below.cell (p := ⟨ga, 0, none⟩) HC.out.2.1.1).trans HC.out.2.1.2, (S.below.cell (p := ⟨g, off + i, none⟩) HC.out.2.2.1.1).trans HC.out.2.2.1.2, (S.below.cell (p := ⟨gx, 0, none⟩) HC.out.2.2.2.1).trans HC.out.2.2.2.2⟩ fun hS => ?_
  clear hKK KK
  refine wpAnyH_done (by kernel_rfl) ?_ _
  clear hS; go_wp2_with fail; obtain ⟨d1_0, d1_1, d1_2⟩ := S.c3 0 rfl
  exact bodyPost_ret (v := .tuple #[.agg #[.bool b9, .slice p9 l9 K9, .slice q9 j9 J9], .int .i64 0]) (by simp [results, Try.f43, go_sem, d1_0, d1_1, d1_2]) rfl (⟨⟨_, rfl, b9, p9, l9, K9, q9, j9, J9, rfl, h9, n9, d9⟩, S.below⟩)
theorem map_getD (A : List (List Rat)) (xs : List Rat) (n : Nat) (h : A.length = n) : (List.range n).map (fun i => dotL (A.getD i []) xs) = A.map (fun r => dotL r xs) := by
  subst h
  apply List.ext_getElem?
  intro j
  rw [List.getElem?_map, List.getElem?_map]
  by_cases hj : j < A.length
  · rw [List.getElem?_range hj, List.getElem?_eq_getElem hj]
    simp [List.getD, List.getElem?_eq_getElem hj]
  · rw [List.getElem?_eq_none (by simp; omega), List.getElem?_eq_none (by omega)]; rfl
set_option maxRecDepth 100000 in
set_option maxHeartbeats 4000000 in
theorem timage_any {va vx : Value} {A : List (List Rat)} {xs : List Rat} {w : World} {n m k1 k2 : Nat} (hA : Tabs2 w va A) (hx : Rats w vx xs) (hn : A.length = n) (hn9 : n ≤ 1000000) (hm : ∀ r, r ∈ A → r.length = m) (hxl : xs.length = m) (hm9 : m ≤ 100)
    (hr1 : ∀ r, r ∈ A → ∀ q, q ∈ r → RB q k1) (hr2 : ∀ q, q ∈ xs → RB q k2) (hk : (k1 + k2 + 1) * m + 1 + (k1 + k2) ≤ 511) :
    Calls Try.prog 23 #[va, vx, .func (.func 9) #[] #[]] w fun e w' => (∃ v, e = .returned (.tuple #[v, .int .i64 0]) ∧ FreshR w w' v (A.map fun r => dotL r xs)) ∧ Below w.heap.size w w' := by
  obtain ⟨p, c, rfl⟩ := hA.form
  obtain ⟨p2, c2, rfl⟩ := hx.form
  rw [hn] at hA ⊢
  rw [hxl] at hx ⊢
  have HV := Lib.hid (fun (W : World) (hB : Below w.heap.size w W) (gd ga gx : Nat) (hgd : gd < W.heap.size) (e0 : W.cell? ⟨gd, 0, none⟩ = some (.func (.func 9) #[] #[])) (hga : ga < W.heap.size) (e1 : W.cell? ⟨ga, 0, none⟩ = some (.slice p n c)) (hgx : gx < W.heap.size) (e2 : W.cell? ⟨gx, 0, none⟩ = some (.slice p2 m c2)) =>
    treck_any n W hn9 43 (.pointer (some ⟨gd, 0, none⟩)) (.pointer (some ⟨ga, 0, none⟩)) (.pointer (some ⟨gx, 0, none⟩)) (fun i => dotL (A.getD i []) xs) (fun _ _ => by kernel_rfl)
      (fun W2 k hB2 hk' => timage1_any ((hA.to hB).to hB2) ((hx.to hB).to hB2) hm hxl hk' hm9 (Nat.lt_of_lt_of_le hgd hB2.size) ((hB2.cell (p := ⟨gd, 0, none⟩) hgd).trans e0) (Nat.lt_of_lt_of_le hga hB2.size) ((hB2.cell (p := ⟨ga, 0, none⟩) hga).trans e1) (Nat.lt_of_lt_of_le hgx hB2.size) ((hB2.cell (p := ⟨gx, 0, none⟩) hgx).trans e2) hr1 hr2 hk _ rfl))
  have HO := Lib.hid (fun (W : World) (hB : Below w.heap.size w W) => tof_yes (hA.to hB) n m hn hn9 hm)
  have HZ := Lib.hid (map_getD A xs n hn)
  clear hA hx hn hn9 hm hxl hm9 hr1 hr2 hk
  have S := (((St.start w).alloc 52 [.slice p n c] (w.heap.size)).alloc 22 [.slice p2 m c2] (w.heap.size + 1)).alloc 40 [.func (.func 9) #[] #[]] (w.heap.size + 1 + 1)
  try simp only [List.cons_append, List.nil_append] at S
  have c0_0 := S.c 0 0 rfl rfl; have c1_0 := S.c 1 0 rfl rfl; have c2_0 := S.c 2 0 rfl rfl
  go_enter Try.func23, Try.ntmps23
  go_wp2_with fail; clear c0_0 c1_0 c2_0
  refine (S.call (HO.out _ S.below)).mono ?_
  clear S
  rintro e w1 ⟨rfl, S, H⟩
  clear H; have c0_0 := S.c 0 0 rfl rfl; have c1_0 := S.c 1 0 rfl rfl; have c2_0 := S.c 2 0 rfl rfl
  have HSZ := S.below.size
  go_wp2_with fail; clear c0_0 c1_0 c2_0
  refine (S.call (HV.out _ S.below _ _ _ (S.lt 2 rfl) (S.c 2 0 rfl rfl) (S.lt 0 rfl) (S.c 0 0 rfl rfl) (S.lt 1 rfl) (S.c 1 0 rfl rfl))).mono ?_
  clear S
  rintro e w2 ⟨⟨v, rfl, hv⟩, S, H⟩
  clear H; have c0_0 := S.c 0 0 rfl rfl; have c1_0 := S.c 1 0 rfl rfl; have c2_0 := S.c 2 0 rfl rfl
  rw [HZ.out] at hv
  go_wp2_with fail
  exact bodyPost_ret (v := .tuple #[v, .int .i64 0]) (by simp [results, Try.f23, go_sem]) rfl (⟨⟨_, rfl, hv.from HSZ⟩, S.below⟩)
set_option maxRecDepth 100000 in
set_option maxHeartbeats 4000000 in
theorem tapply_any {va vx : Value} {A : List (List Rat)} {xs : List Rat} {w : World} {n m k1 k2 : Nat} (hA : Tabs2 w va A) (hx : Rats w vx xs) (hn : A.length = n) (hn9 : n ≤ 1000000) (hm : ∀ r, r ∈ A → r.length = m) (hxl : xs.length = m) (hm9 : m ≤ 100)
    (hr1 : ∀ r, r ∈ A → ∀ q, q ∈ r → RB q k1) (hr2 : ∀ q, q ∈ xs → RB q k2) (hk : (k1 + k2 + 1) * m + 1 + (k1 + k2) ≤ 511) :
    Calls Try.prog 8 #[va, vx] w fun e w' => (∃ v, e = .returned (.tuple #[v, .int .i64 0]) ∧ FreshR w w' v (A.map fun r => dotL r xs)) ∧ Below w.heap.size w w' := by
  have HV := Lib.hid (timage_any hA hx hn hn9 hm hxl hm9 hr1 hr2 hk)
  clear hA hx hn hn9 hm hxl hm9 hr1 hr2 hk
  have S := St.start w
  go_enter Try.func8, Try.ntmps8
  go_wp2_with fail
  refine (S.call (HV.out)).mono ?_
  clear S
  rintro e w1 ⟨⟨v, rfl, hv⟩, S, H⟩
  clear H; go_wp2_with fail
  exact bodyPost_ret (v := .tuple #[v, .int .i64 0]) (by simp [results, Try.f8, go_sem]) rfl (⟨⟨_, rfl, hv⟩, S.below⟩)
set_option maxRecDepth 100000 in
set_option maxHeartbeats 4000000 in
theorem tfill_len (n : Nat) (hn : n ≤ 16) (w : World) (fid : FuncId) (cp : Value)
    (hcf : ∀ (u : Value) (W : World), Sem.run Try.prog (callFunc fid #[u, cp]) W = .ok (.enter fid #[u, cp]) W)
    (hf : ∀ (W : World) (k : Nat), Below w.heap.size w W → k < n → Calls Try.prog fid #[.int .i64 k, cp] W fun e w' => (∃ p l c, e = .returned (.slice p l c)) ∧ Below W.heap.size W w') :
    Calls Try.prog 13 #[.int .i64 n, .func (.func fid) #[] #[cp]] w fun e w' => (∃ g, e = .returned (.slice (some ⟨g, 0, none⟩) n n)) ∧ Below w.heap.size w w' := by
  have HI := Lib.hid (And.intro hf hn)
  have m1 : max ((n : Nat) : Int) 0 = n := by omega
  have m2 : min ((n : Nat) : Int) 16 = n := by omega
  clear hf
  have S := St.start w
  go_enter Try.func13, Try.ntmps13
  go_upto_region 2 with (at_make; refine make_lists _ (by kernel_rfl) S rfl _ _ rfl _ _ n rfl rfl ?hL ?hC ?hn (fun w3 S3 hB3 => ?_))
  case hL => simp
  case hC => simp
  case hn => omega
  simp only [List.nil_append] at S3
  replace S := S3
  clear S3 hB3; go_wp2_with fail
  go_loopw [13] (fun si wr => ∃ k : Nat, k ≤ n ∧ si = .int .i64 k ∧ ∃ vs : List Value, vs.length = k ∧ St w wr [(w.heap.size, 22, vs ++ List.replicate (n - k) (Value.slice none 0 0))]) (fun si _ => n - (intOf si).toNat)
  case atStart => exact ⟨0, by omega, rfl, [], rfl, S⟩
  case round =>
    clear S
    obtain ⟨k, hk, rfl, vs, hl, S⟩ := hrel
    by_cases hlt : k < n
    · obtain ⟨r, hr⟩ : ∃ r, n - k = r + 1 := ⟨n - k - 1, by omega⟩
      rw [hr] at S
      have HQ := Lib.hid (And.intro hl (And.intro hlt hr))
      have hki : (k : Int) < ((n : Nat) : Int) := by omega
      have hk9 : (k : Int) ≤ 16 := by omega
      clear hr hlt hl hk; go_wp2_with fail
      refine (S.call (HI.out.1 _ k S.below HQ.out.2.1)).mono ?_
      rintro e w4 ⟨⟨p, l, c, rfl⟩, S', H⟩
      clear S H
      have f0 := S'.f 0 k rfl
      obtain ⟨S, H⟩ := S'.putAtL 0 (.slice p l c) rfl HQ.out.1
      have g0 := S'.c 0 k rfl (v := .slice none 0 0) (by rw [← HQ.out.1]; simp)
      clear S' H; go_wp2_with fail
      go_roundw
      case rel => exact ⟨k + 1, HQ.out.2.1, by go_num, vs ++ [.slice p l c], by simp [HQ.out.1], by rw [show n - (k + 1) = r by have := HQ.out.2.2; omega]; exact S⟩
      case measure => have := HQ.out.2.1; simp [intOf]; omega
    · have hki : ¬ (k : Int) < ((n : Nat) : Int) := by omega
      clear hlt; go_wp2_with fail
      exact bodyPost_ret (v := .slice (some ⟨w.heap.size, 0, none⟩) n n) (by simp [results, Try.f13, go_sem]) rfl (⟨⟨_, rfl⟩, S.below⟩)
set_option maxRecDepth 100000 in
set_option maxHeartbeats 4000000 in
theorem tone1_any {w : World} {g n : Nat} (i : Nat) (hn : n ≤ 16) (_ : g < w.heap.size) (e0 : w.cell? ⟨g, 0, none⟩ = some (.int .i64 n)) :
    Calls Try.prog 14 #[.int .i64 i, .pointer (some ⟨g, 0, none⟩)] w fun e w' => (∃ p l c, e = .returned (.slice p l c)) ∧ Below w.heap.size w w' := by
  have S := St.start w
  go_enter Try.func14, Try.ntmps14
  go_wp2_with fail
  refine (S.call (vunit_any n hn (i : Int) _)).mono ?_
  clear S
  rintro e w1 ⟨⟨_, rfl, g3, vs3, rfl, hg3, hh, r3⟩, S, H⟩
  clear H; go_wp2_with fail
  exact bodyPost_ret (v := .slice (some ⟨g3, 0, none⟩) (unitL n (i : Int)).length (unitL n (i : Int)).length) (by simp [results, Try.f14, go_sem]) rfl (⟨⟨_, _, _, rfl⟩, S.below⟩)
set_option maxRecDepth 100000 in
set_option maxHeartbeats 4000000 in
theorem tone_len (n : Nat) (hn : n ≤ 16) (w : World) :
    Calls Try.prog 5 #[.int .i64 n] w fun e w' => (∃ g, e = .returned (.slice (some ⟨g, 0, none⟩) n n)) ∧ Below w.heap.size w w' := by
  have HV := Lib.hid (fun (W : World) (g : Nat) (hg : g < W.heap.size) (e0 : W.cell? ⟨g, 0, none⟩ = some (.int .i64 n)) => tfill_len n hn W 14 (.pointer (some ⟨g, 0, none⟩)) (fun _ _ => by kernel_rfl) (fun W2 k hB2 _ => tone1_any k hn (Nat.lt_of_lt_of_le hg hB2.size) ((hB2.cell (p := ⟨g, 0, none⟩) hg).trans e0)))
  clear hn
  have S := (St.start w).alloc 3 [.int .i64 n] (w.heap.size)
  try simp only [List.nil_append] at S
  have c0_0 := S.c 0 0 rfl rfl
  go_enter Try.func5, Try.ntmps5
  go_wp2_with fail; clear c0_0
  refine (S.call (HV.out _ _ (S.lt 0 rfl) (S.c 0 0 rfl rfl))).mono ?_
  clear S
  rintro e w1 ⟨⟨g, rfl⟩, S, H⟩
  clear H; have c0_0 := S.c 0 0 rfl rfl; go_wp2_with fail
  exact bodyPost_ret (v := .slice (some ⟨g, 0, none⟩) n n) (by simp [results, Try.f5, go_sem]) rfl (⟨⟨_, rfl⟩, S.below⟩)
set_option maxRecDepth 100000 in
theorem check_big (p : Option Addr) (K l : Nat) (w : World) (h : 512 < l) :
    Calls Try.prog 17 #[.slice p l K] w fun e w' => e = .returned (.int .i64 11) ∧ Below w.heap.size w w' := by
  have h' : (512 : Int) < (l : Int) := by omega
  have S := St.start w
  try simp only [List.cons_append, List.nil_append] at S
  go_enter Try.func17, Try.ntmps17
  go_wp2_with fail
  exact bodyPost_ret (v := .int .i64 11) (by simp [results, Try.f17, go_sem]) rfl (⟨rfl, S.below⟩)
theorem check_all (p : Option Addr) (K l : Nat) (es : List Nat) (w : World) (hat : At .u32 w p K es) (hl : es.length = l) (c : Int) (hc : ((checkOf es : Nat) : Int) = c) :
    Calls Try.prog 17 #[.slice p l K] w fun e w' => e = .returned (.int .i64 c) ∧ Below w.heap.size w w' := by
  by_cases h : 512 < l
  · have e : checkOf es = 11 := by unfold checkOf; rw [if_pos (by omega)]
    subst hc
    rw [e]
    exact check_big p K l w h
  · exact check_rawN p K l es w hat hl (by omega) c hc
set_option maxRecDepth 100000 in
theorem wcheck_big (b : Bool) (p : Option Addr) (K l : Nat) (w : World) (h : 512 < l) :
    Calls Try.prog 16 #[.agg #[.bool b, .slice p l K]] w fun e w' => e = .returned (.int .i64 11) ∧ Below w.heap.size w w' := by
  have HL := Lib.hid h
  clear h
  have S := (St.start w).alloc 30 [.bool b, .slice p l K] (w.heap.size)
  try simp only [List.nil_append] at S
  have c0_0 := S.c 0 0 rfl rfl; have c0_1 := S.c 0 1 rfl rfl
  go_enter Try.func16, Try.ntmps16
  go_wp2_with fail; clear c0_0 c0_1
  refine (S.call (check_big p K l _ HL.out)).mono ?_
  clear S
  rintro e w1 ⟨rfl, S, H⟩
  clear H; have c0_0 := S.c 0 0 rfl rfl; have c0_1 := S.c 0 1 rfl rfl; go_wp2_with fail
  exact bodyPost_ret (v := .int .i64 11) (by simp [results, Try.f16, go_sem]) rfl (⟨rfl, S.below⟩)
theorem wcheck_all (b : Bool) (p : Option Addr) (K l : Nat) (ds : List Nat) (w : World) (hat : At .u32 w p K ds) (hd : Dig 4294967296 ds) (hl : ds.length = l) :
    Calls Try.prog 16 #[.agg #[.bool b, .slice p l K]] w fun e w' => (∃ c : Int, e = .returned (.int .i64 c) ∧ Hid (c = 0 → l ≤ 512 ∧ cut ds = ds ∧ (b = true → ds ≠ []))) ∧ Below w.heap.size w w' := by
  by_cases h : 512 < l
  · exact (wcheck_big b p K l w h).mono fun e w' h => ⟨⟨11, h.1, fun h => by cases h⟩, h.2⟩
  · exact (wcheck_raw b p K l ds w hat hd hl (by omega)).mono fun e w' ⟨⟨c, h1, h2⟩, h3⟩ => ⟨⟨c, h1, fun h0 => ⟨by omega, h2.out h0⟩⟩, h3⟩
set_option maxRecDepth 100000 in
set_option maxHeartbeats 4000000 in
theorem rcheck_big (b : Bool) (p p' : Option Addr) (K K' l l' : Nat) (ds es : List Nat) (w : World) (at1 : At .u32 w p K ds) (at2 : At .u32 w p' K' es) (d1 : Dig 4294967296 ds) (hl : ds.length = l) (hl' : es.length = l') (h5 : 512 < l ∨ 512 < l') :
    Calls Try.prog 6 #[.agg #[.bool b, .slice p l K, .slice p' l' K']] w fun e w' => (∃ c : Int, e = .returned (.int .i64 c) ∧ Hid (c ≠ 0)) ∧ Below w.heap.size w w' := by
  obtain ⟨c2, hc2⟩ : ∃ c2 : Int, ((checkOf es : Nat) : Int) = c2 := ⟨_, rfl⟩
  have h2 : 512 < l' → c2 ≠ 0 := fun h e => by
    have e2 : checkOf es = 11 := by unfold checkOf; rw [if_pos (by omega)]
    omega
  have HD := Lib.hid (And.intro d1 (And.intro hl (And.intro hl' (And.intro h5 (And.intro hc2 h2)))))
  clear d1 hl hl' h5 hc2 h2
  have S := (St.start w).alloc 32 [.bool b, .slice p l K, .slice p' l' K'] (w.heap.size)
  try simp only [List.nil_append] at S
  replace at1 := at1.hold S.hold
  replace at2 := at2.hold S.hold
  obtain ⟨c0_0, c0_1, c0_2⟩ := S.c3 0 rfl
  go_enter Try.func6, Try.ntmps6
  go_upto_region 1 with fail
  clear c0_0 c0_1 c0_2
  generalize (w.alloc (.cells #[.bool b, .slice p l K, .slice p' l' K'] 32)) = w1 at S at1 at2 ⊢
  have HH := Hold.drew w1
  replace at1 := at1.hold HH; replace at2 := at2.hold HH
  replace S := S.drew
  refine wp_region_held_drew (S := fun W => W.cell? ⟨w.heap.size, 0, none⟩ = some (.bool b) ∧ W.cell? ⟨w.heap.size, 1, none⟩ = some (.slice p l K) ∧ W.cell? ⟨w.heap.size, 2, none⟩ = some (.slice p' l' K')) (by kernel_rfl) (S.c3 0 rfl) (fun hS => ?_)
  generalize w1.drew = w2 at S at1 at2 HH hS ⊢
  refine wpAnyH_take (i := 0) (v := ?_) (opOf rfl) (by kernel_rfl) (by kernel_rfl) (by kernel_rfl) (fun _ _ _ h => h) (Or.inl ⟨rfl, fun W hW => ?_⟩) hS ?_
  rotate_left
  · obtain ⟨hW0, hW1, hW2⟩ := hW; go_simp; try first | rfl | (rw [if_neg (by first | omega | (simp only [ByteArray.size_append]; first | omega | (have h1 : (ByteArray.mk #[47]).size = 1 := rfl; omega)))]; try rfl) | kernel_rfl
  try simp only [Act.put, List.setIfInBounds_toArray, List.set_cons_zero, List.set_cons_succ]
  refine wpAnyH_take (i := 1) (v := ?_) (opOf rfl) (by kernel_rfl) (by kernel_rfl) (by kernel_rfl) (fun _ _ _ h => h) (Or.inl ⟨rfl, fun W hW => ?_⟩) hS ?_
  rotate_left
  · obtain ⟨hW0, hW1, hW2⟩ := hW; go_simp; try first | rfl | (rw [if_neg (by first | omega | (simp only [ByteArray.size_append]; first | omega | (have h1 : (ByteArray.mk #[47]).size = 1 := rfl; omega)))]; try rfl) | kernel_rfl
  try simp only [Act.put, List.setIfInBounds_toArray, List.set_cons_zero, List.set_cons_succ]
  refine wpAnyH_take (i := 3) (v := ?_) (opOf rfl) (by kernel_rfl) (by kernel_rfl) (by kernel_rfl) (fun _ _ _ h => h) (Or.inl ⟨rfl, fun W hW => ?_⟩) hS ?_
  rotate_left
  · obtain ⟨hW0, hW1, hW2⟩ := hW; go_simp; try first | rfl | (rw [if_neg (by first | omega | (simp only [ByteArray.size_append]; first | omega | (have h1 : (ByteArray.mk #[47]).size = 1 := rfl; omega)))]; try rfl) | kernel_rfl
  try simp only [Act.put, List.setIfInBounds_toArray, List.set_cons_zero, List.set_cons_succ]
  refine wpAnyH_take (i := 4) (v := ?_) (opOf rfl) (by kernel_rfl) (by kernel_rfl) (by kernel_rfl) (fun _ _ _ h => h) (Or.inl ⟨rfl, fun W hW => ?_⟩) hS ?_
  rotate_left
  · obtain ⟨hW0, hW1, hW2⟩ := hW; go_simp; try first | rfl | (rw [if_neg (by first | omega | (simp only [ByteArray.size_append]; first | omega | (have h1 : (ByteArray.mk #[47]).size = 1 := rfl; omega)))]; try rfl) | kernel_rfl
  try simp only [Act.put, List.setIfInBounds_toArray, List.set_cons_zero, List.set_cons_succ]
  refine wpAnyH_ready (rs := [2]) (by kernel_rfl) (by simp) (AllReadyH.cons (opOf rfl) (fun KK hKK => ?_) AllReadyH.nil)
  go_simp; clear hS
  refine (S.call (wcheck_all b p K l ds _ at1 HD.out.1 HD.out.2.1)).mono ?_
  clear S
  rintro e w3 ⟨⟨c1, rfl, h1⟩, S, H⟩
  replace at1 := at1.hold H; replace at2 := at2.hold H; replace HH := HH.trans H; clear H; go_wp2_with fail
  refine ho hKK (S.c3 0 rfl) fun hS => ?_
  clear hKK KK
  refine wpAnyH_ready (rs := [5]) (by kernel_rfl) (by simp) (AllReadyH.cons (opOf rfl) (fun KK hKK => ?_) AllReadyH.nil)
  go_simp; clear hS
  refine (S.call (check_all p' K' l' es _ at2 HD.out.2.2.1 c2 HD.out.2.2.2.2.1)).mono ?_
  clear S
  rintro e w4 ⟨rfl, S, H⟩
  replace at1 := at1.hold H; replace at2 := at2.hold H; replace HH := HH.trans H; clear H; go_wp2_with fail
  refine ho hKK (S.c3 0 rfl) fun hS => ?_
  clear hKK KK
  refine wpAnyH_ready (rs := [6]) (by kernel_rfl) (by simp) (AllReadyH.cons (opOf rfl) (fun KK hKK => ?_) AllReadyH.nil)
  go_simp; clear hS
  have H := S.hnew 33 [.int .i64 c1, .int .i64 c2]
  replace S := S.al 33 [.int .i64 c1, .int .i64 c2] (w4.heap.size)
  replace at1 := at1.hold H; replace at2 := at2.hold H; replace HH := HH.trans H; clear H
  refine ho hKK (S.c3 0 rfl) fun hS => ?_
  generalize (w4.alloc (.cells #[.int .i64 c1, .int .i64 c2] 33)) = w5 at S at1 at2 HH hS ⊢
  clear hKK KK
  refine wpAnyH_ready (rs := [7]) (by kernel_rfl) (by simp) (AllReadyH.cons (opOf rfl) (fun KK hKK => ?_) AllReadyH.nil)
  go_simp; clear hS
  refine (S.call (or_pair S 1 rfl)).mono ?_
  clear S
  rintro e w6 ⟨⟨r, rfl, hr⟩, S, H⟩
  replace at1 := at1.hold H; replace at2 := at2.hold H; replace HH := HH.trans H; clear H; go_wp2_with fail
  refine ho hKK (S.c3 0 rfl) fun hS => ?_
  clear hKK KK
  refine wpAnyH_ready (rs := [8]) (by kernel_rfl) (by simp) (AllReadyH.cons (opOf rfl) (fun KK hKK => ?_) AllReadyH.nil)
  go_simp
  refine ho hKK hS fun hS => ?_
  clear hKK KK
  refine wpAnyH_done (by kernel_rfl) ?_ _
  clear hS HH
  have h0 : r ≠ 0 := fun e => by
    obtain ⟨e1, e2⟩ := hr.out e
    rcases HD.out.2.2.2.1 with h | h
    · have := (h1.out e1).1; omega
    · exact HD.out.2.2.2.2.2 h e2
  have h0' : (r != 0) = true := by simpa using h0
  have H0 := Lib.hid h0
  clear h0 hr h1; obtain ⟨c0_0, c0_1, c0_2⟩ := S.c3 0 rfl; go_wp2_with fail
  exact bodyPost_ret (v := .int .i64 r) (by simp [results, Try.f6, go_sem]) rfl (⟨⟨r, rfl, H0⟩, S.below⟩)
theorem rcheck_all (b : Bool) (p p' : Option Addr) (K K' l l' : Nat) (ds es : List Nat) (w : World) (at1 : At .u32 w p K ds) (at2 : At .u32 w p' K' es) (d1 : Dig 4294967296 ds) (d2 : Dig 4294967296 es) (hl : ds.length = l) (hl' : es.length = l') :
    Calls Try.prog 6 #[.agg #[.bool b, .slice p l K, .slice p' l' K']] w fun e w' => (∃ c : Int, e = .returned (.int .i64 c) ∧ Hid (c = 0 → ValidR b ds es)) ∧ Below w.heap.size w w' := by
  by_cases h : 512 < l ∨ 512 < l'
  · exact (rcheck_big b p p' K K' l l' ds es w at1 at2 d1 hl hl' h).mono fun e w' ⟨⟨c, h1, h2⟩, h3⟩ => ⟨⟨c, h1, fun h0 => absurd h0 h2.out⟩, h3⟩
  · exact rcheck_raw b p p' K K' l l' ds es w at1 at2 d1 d2 hl hl' (by omega) (by omega)
def cmpR (x y : Rat) : Int := cmpI (x.num * y.den) (y.num * x.den)
set_option maxRecDepth 100000 in
set_option maxHeartbeats 4000000 in
theorem rcompare_any {va vb : Value} {x y : Rat} {w : World} (ha : IsRat w va x) (hb : IsRat w vb y) {k1 k2 : Nat} (hx : RB x k1) (hy : RB y k2) (hk : k1 + k2 ≤ 511) (c : Int) (hc : cmpR x y = c) :
    Calls Try.prog 10 #[va, vb] w fun e w' => e = .returned (.tuple #[.int .i64 c, .int .i64 0]) ∧ Below w.heap.size w w' := by
  obtain ⟨b1, p1, l1, K1, q1, j1, J1, rfl, hb1, n1, d1⟩ := ha
  obtain ⟨b2, p2, l2, K2, q2, j2, J2, rfl, hb2, n2, d2⟩ := hb
  obtain ⟨X, hX⟩ : ∃ X, x.num * y.den = X := ⟨_, rfl⟩
  obtain ⟨Y, hY⟩ : ∃ Y, y.num * x.den = Y := ⟨_, rfl⟩
  have hb := rbz hx hy
  rw [hX, hY] at hb
  unfold cmpR at hc
  rw [hX, hY] at hc
  have HX := Lib.hid (And.intro (rb_max hx (by omega)) (rb_max hy (by omega)))
  have HD := Lib.hid (And.intro hX (And.intro hY hc))
  have HB := Lib.hid (And.intro (nb_max hb.1 (by omega)) (nb_max hb.2.1 (by omega)))
  clear hX hY hb hc hx hy hk
  have S := ((St.start w).alloc 32 [.bool b1, .slice p1 l1 K1, .slice q1 j1 J1] (w.heap.size)).alloc 32 [.bool b2, .slice p2 l2 K2, .slice q2 j2 J2] (w.heap.size + 1)
  try simp only [List.cons_append, List.nil_append] at S
  refine iv4 S.hold n1 d1 n2 d2 ?_; clear n1 d1 n2 d2; intro n1 d1 n2 d2
  obtain ⟨c0_0, c0_1, c0_2⟩ := S.c3 0 rfl; obtain ⟨c1_0, c1_1, c1_2⟩ := S.c3 1 rfl
  go_enter Try.func10, Try.ntmps10
  go_wp2_with fail; clear c0_0 c0_1 c0_2 c1_0 c1_1 c1_2
  refine (S.call (cross_any ⟨b1, p1, l1, K1, q1, j1, J1, rfl, hb1, n1, d1⟩ ⟨b2, p2, l2, K2, q2, j2, J2, rfl, hb2, n2, d2⟩ HX.out.1.1 HX.out.1.2 HX.out.2.1 HX.out.2.2 X Y HD.out.1 HD.out.2.1 HB.out.1 HB.out.2)).mono ?_
  clear S
  rintro e w1 ⟨⟨_, _, rfl, ⟨px, lx, Kx, rfl, nx⟩, ⟨py, ly, Ky, rfl, ny⟩⟩, S, H⟩
  refine iv4 H n1 d1 n2 d2 ?_; clear n1 d1 n2 d2; intro n1 d1 n2 d2
  clear H; obtain ⟨c0_0, c0_1, c0_2⟩ := S.c3 0 rfl; obtain ⟨c1_0, c1_1, c1_2⟩ := S.c3 1 rfl
  have H := S.hnew 30 [.bool (negB X), .slice px lx Kx]
  replace S := S.al 30 [.bool (negB X), .slice px lx Kx] (w1.heap.size)
  refine iv6 H n1 d1 n2 d2 nx ny ?_; clear n1 d1 n2 d2 nx ny; intro n1 d1 n2 d2 nx ny
  clear H
  have H := S.hnew 30 [.bool (negB Y), .slice py ly Ky]
  replace S := S.al 30 [.bool (negB Y), .slice py ly Ky] (w1.heap.size + 1)
  refine iv6 H n1 d1 n2 d2 nx ny ?_; clear n1 d1 n2 d2 nx ny; intro n1 d1 n2 d2 nx ny
  clear H; clear c0_0 c0_1 c0_2 c1_0 c1_1 c1_2; obtain ⟨c0_0, c0_1, c0_2⟩ := S.c3 0 rfl; obtain ⟨c1_0, c1_1, c1_2⟩ := S.c3 1 rfl; have c2_0 := S.c 2 0 rfl rfl; have c2_1 := S.c 2 1 rfl rfl; have c3_0 := S.c 3 0 rfl rfl; have c3_1 := S.c 3 1 rfl rfl; go_wp2_with fail; clear c0_0 c0_1 c0_2 c1_0 c1_1 c1_2 c2_0 c2_1 c3_0 c3_1
  refine (S.call (wcompare_to ⟨_, _, _, rfl, nx⟩ ⟨_, _, _, rfl, ny⟩ HB.out.1 HB.out.2 c HD.out.2.2)).mono ?_
  clear S
  rintro e w2 ⟨rfl, S, H⟩
  refine iv6 H n1 d1 n2 d2 nx ny ?_; clear n1 d1 n2 d2 nx ny; intro n1 d1 n2 d2 nx ny
  clear H; obtain ⟨c0_0, c0_1, c0_2⟩ := S.c3 0 rfl; obtain ⟨c1_0, c1_1, c1_2⟩ := S.c3 1 rfl; have c2_0 := S.c 2 0 rfl rfl; have c2_1 := S.c 2 1 rfl rfl; have c3_0 := S.c 3 0 rfl rfl; have c3_1 := S.c 3 1 rfl rfl; go_wp2_with fail
  exact bodyPost_ret (v := .tuple #[.int .i64 c, .int .i64 0]) (by simp [results, Try.f10, go_sem]) rfl (⟨rfl, S.below⟩)
end Go.Proofs.Ytcfgefbkeeedgaa
