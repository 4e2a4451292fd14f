/-
  What the statement stands on.
-/
import Derived.Test.YtcfgefbkeeedgaaGreatDoorM22
namespace Go.Proofs.YtcfgefbkeeedgaaGreatDoor
open Go.RowKit
set_option maxRecDepth 100000 in
set_option maxHeartbeats 4000000 in
theorem radd_any {va vb : Value} {x y : Rat} {w : World} (ha : IsRat w va x) (hb : IsRat w vb y) {k1 k2 : Nat} (hx : RB x k1) (hy : RB y k2) (hk : k1 + k2 ≤ 511) (q : Rat) (hq : x + y = q) :
    Calls Tryz.prog 18 #[va, vb] w fun e w' => (∃ u, e = .returned (.tuple #[u, .int .i64 0]) ∧ IsRat w' u q) ∧ Below w.heap.size w w' := by
  obtain ⟨b1, p1, l1, K1, q1, j1, J1, rfl, hb1, n1, d1⟩ := ha
  obtain ⟨b2, p2, l2, K2, q2, j2, J2, rfl, hb2, n2, d2⟩ := hb
  obtain ⟨X, hX⟩ : ∃ X, x.num * y.den = X := ⟨_, rfl⟩
  obtain ⟨Y, hY⟩ : ∃ Y, y.num * x.den = Y := ⟨_, rfl⟩
  obtain ⟨Z, hZ⟩ : ∃ Z, X + Y = Z := ⟨_, rfl⟩
  obtain ⟨D, hD⟩ : ∃ D, ((x.den * y.den : Nat) : Int) = D := ⟨_, rfl⟩
  have hb := rbz hx hy
  rw [hX, hY] at hb
  have hZb : Z.natAbs < NB (k1 + k2 + 1) := hZ ▸ nbz_add hb.1 hb.2.1
  have hD0 : D ≠ 0 := by rw [← hD]; have := Nat.mul_pos x.den_pos y.den_pos; omega
  have hDb : D.natAbs < maxN := by rw [← hD, Int.natAbs_natCast]; exact nb_max hb.2.2.1 (by omega)
  have hdd : (x.den : Int) * (y.den : Int) = D := by rw [← hD, Int.natCast_mul]
  have hq2 : q = Rat.divInt Z D := by rw [← hq, add_divInt, hX, hY, hZ, hD]
  have HX := Lib.hid (And.intro (rb_max hx (by omega)) (rb_max hy (by omega)))
  have HD := Lib.hid (And.intro hX (And.intro hY (And.intro hZ (And.intro hdd (And.intro hq2 hD0)))))
  have HB := Lib.hid (And.intro (nb_max hb.1 (by omega)) (And.intro (nb_max hb.2.1 (by omega)) (And.intro (nb_max hZb (by omega)) hDb)))
  clear hX hY hZ hD hb hZb hD0 hDb hdd hq hq2 hx hy hk
  have S := (((St.start w).alloc 34 [.bool b1, .slice p1 l1 K1, .slice q1 j1 J1] (w.heap.size)).alloc 34 [.bool b2, .slice p2 l2 K2, .slice q2 j2 J2] (w.heap.size + 1)).alloc 34 [.bool false, .slice none 0 0, .slice none 0 0] (w.heap.size + 1 + 1)
  try simp only [List.cons_append, List.nil_append] at S
  refine iv4 S.hold n1 d1 n2 d2 ?_; clear n1 d1 n2 d2; intro n1 d1 n2 d2
  obtain ⟨c0_0, c0_1, c0_2⟩ := S.c3 0 rfl; obtain ⟨c1_0, c1_1, c1_2⟩ := S.c3 1 rfl; obtain ⟨c2_0, c2_1, c2_2⟩ := S.c3 2 rfl
  go_enter Tryz.func18, Tryz.ntmps18
  go_wp2_with fail; clear c0_0 c0_1 c0_2 c1_0 c1_1 c1_2 c2_0 c2_1 c2_2
  refine (S.call (cross_any ⟨b1, p1, l1, K1, q1, j1, J1, rfl, hb1, n1, d1⟩ ⟨b2, p2, l2, K2, q2, j2, J2, rfl, hb2, n2, d2⟩ HX.out.1.1 HX.out.1.2 HX.out.2.1 HX.out.2.2 X Y HD.out.1 HD.out.2.1 HB.out.1 HB.out.2.1)).mono ?_
  clear S
  rintro e w1 ⟨⟨_, _, rfl, ⟨px, lx, Kx, rfl, nx⟩, ⟨py, ly, Ky, rfl, ny⟩⟩, S, H⟩
  refine iv4 H n1 d1 n2 d2 ?_; clear n1 d1 n2 d2; intro n1 d1 n2 d2
  clear H; obtain ⟨c0_0, c0_1, c0_2⟩ := S.c3 0 rfl; obtain ⟨c1_0, c1_1, c1_2⟩ := S.c3 1 rfl; obtain ⟨c2_0, c2_1, c2_2⟩ := S.c3 2 rfl
  have H := S.hnew 25 [.bool (negB X), .slice px lx Kx]
  replace S := S.al 25 [.bool (negB X), .slice px lx Kx] (w1.heap.size)
  refine iv6 H n1 d1 n2 d2 nx ny ?_; clear n1 d1 n2 d2 nx ny; intro n1 d1 n2 d2 nx ny
  clear H
  have H := S.hnew 25 [.bool (negB Y), .slice py ly Ky]
  replace S := S.al 25 [.bool (negB Y), .slice py ly Ky] (w1.heap.size + 1)
  refine iv6 H n1 d1 n2 d2 nx ny ?_; clear n1 d1 n2 d2 nx ny; intro n1 d1 n2 d2 nx ny
  clear H; clear c0_0 c0_1 c0_2 c1_0 c1_1 c1_2 c2_0 c2_1 c2_2; obtain ⟨c0_0, c0_1, c0_2⟩ := S.c3 0 rfl; obtain ⟨c1_0, c1_1, c1_2⟩ := S.c3 1 rfl; obtain ⟨c2_0, c2_1, c2_2⟩ := S.c3 2 rfl; have c3_0 := S.c 3 0 rfl rfl; have c3_1 := S.c 3 1 rfl rfl; have c4_0 := S.c 4 0 rfl rfl; have c4_1 := S.c 4 1 rfl rfl; go_wp2_with fail; clear c0_0 c0_1 c0_2 c1_0 c1_1 c1_2 c2_0 c2_1 c2_2 c3_0 c3_1 c4_0 c4_1
  refine (S.call (wadd_to ⟨_, _, _, rfl, nx⟩ ⟨_, _, _, rfl, ny⟩ HB.out.1 HB.out.2.1 Z HD.out.2.2.1 HB.out.2.2.1)).mono ?_
  clear S
  rintro e w2 ⟨⟨_, rfl, pz, lz, Kz, rfl, nz⟩, S, H⟩
  refine iv6 H n1 d1 n2 d2 nx ny ?_; clear n1 d1 n2 d2 nx ny; intro n1 d1 n2 d2 nx ny
  clear H; obtain ⟨c0_0, c0_1, c0_2⟩ := S.c3 0 rfl; obtain ⟨c1_0, c1_1, c1_2⟩ := S.c3 1 rfl; obtain ⟨c2_0, c2_1, c2_2⟩ := S.c3 2 rfl; have c3_0 := S.c 3 0 rfl rfl; have c3_1 := S.c 3 1 rfl rfl; have c4_0 := S.c 4 0 rfl rfl; have c4_1 := S.c 4 1 rfl rfl
  have H := S.hnew 25 [.bool (negB Z), .slice pz lz Kz]
  replace S := S.al 25 [.bool (negB Z), .slice pz lz Kz] (w2.heap.size)
  refine iv7 H n1 d1 n2 d2 nx ny nz ?_; clear n1 d1 n2 d2 nx ny nz; intro n1 d1 n2 d2 nx ny nz
  clear H; clear c0_0 c0_1 c0_2 c1_0 c1_1 c1_2 c2_0 c2_1 c2_2 c3_0 c3_1 c4_0 c4_1; obtain ⟨c0_0, c0_1, c0_2⟩ := S.c3 0 rfl; obtain ⟨c1_0, c1_1, c1_2⟩ := S.c3 1 rfl; obtain ⟨c2_0, c2_1, c2_2⟩ := S.c3 2 rfl; have c3_0 := S.c 3 0 rfl rfl; have c3_1 := S.c 3 1 rfl rfl; have c4_0 := S.c 4 0 rfl rfl; have c4_1 := S.c 4 1 rfl rfl; have c5_0 := S.c 5 0 rfl rfl; have c5_1 := S.c 5 1 rfl rfl
  go_upto_region 5 with fail
  clear c0_0 c0_1 c0_2 c1_0 c1_1 c1_2 c2_0 c2_1 c2_2 c3_0 c3_1 c4_0 c4_1 c5_0 c5_1
  generalize (w2.alloc (.cells #[.bool (negB Z), .slice pz lz Kz] 25)) = w3 at S n1 d1 n2 d2 nx ny nz ⊢
  go_cut [10, 11] (fun s10 s11 wx => ∃ g10 pd ld Kd, s10 = .pointer (some ⟨g10, 0, none⟩) ∧ s11 = .int .i64 0 ∧ St w wx [(w.heap.size, 34, [.bool b1, .slice p1 l1 K1, .slice q1 j1 J1]), (w.heap.size + 1, 34, [.bool b2, .slice p2 l2 K2, .slice q2 j2 J2]), (w.heap.size + 1 + 1, 34, [.bool false, .slice none 0 0, .slice none 0 0]), (w1.heap.size, 25, [.bool (negB X), .slice px lx Kx]), (w1.heap.size + 1, 25, [.bool (negB Y), .slice py ly Ky]), (w2.heap.size, 25, [.bool (negB Z), .slice pz lz Kz]), (g10, 25, [.bool (negB D), .slice pd ld Kd])] ∧ IsNat wx (.slice pd ld Kd) D.natAbs ∧ Hold w3 wx)
  case first =>
    have HH := Hold.drew w3
    refine iv7 HH n1 d1 n2 d2 nx ny nz ?_; clear n1 d1 n2 d2 nx ny nz; intro n1 d1 n2 d2 nx ny nz
    replace S := S.drew
    refine wp_region_held_drew (S := fun W => W.cell? ⟨w.heap.size, 2, none⟩ = some (.slice q1 j1 J1) ∧ W.cell? ⟨w.heap.size + 1, 2, none⟩ = some (.slice q2 j2 J2)) (by kernel_rfl) ⟨(S.c 0 2 rfl rfl), (S.c 1 2 rfl rfl)⟩ (fun hS => ?_)
    generalize w3.drew = w4 at S n1 d1 n2 d2 nx ny nz HH hS ⊢
    refine tk 0 hS ?_
    refine tk 1 hS ?_
    refine tk 3 hS ?_
    refine tk 4 hS ?_
    refine wpAnyH_ready (rs := [2, 10]) (by kernel_rfl) (by simp) (AllReadyH.cons (opOf rfl) (fun KK hKK => ?_) (AllReadyH.cons (opOf rfl) (fun KK hKK => ?_) AllReadyH.nil))
    ·
      go_simp; clear hS
      refine (S.call (wnat_any d1 HX.out.1.2 (x.den : Int) rfl)).mono ?_
      clear S
      rintro e w5 ⟨⟨_, rfl, pa, la, Ka, rfl, na⟩, S, H⟩
      refine iv7 H n1 d1 n2 d2 nx ny nz ?_; clear n1 d1 n2 d2 nx ny nz; intro n1 d1 n2 d2 nx ny nz; replace HH := HH.trans H; clear H
      go_wp2_with fail
      refine ho hKK ⟨(S.c 0 2 rfl rfl), (S.c 1 2 rfl rfl)⟩ fun hS => ?_
      clear hKK KK
      refine wpAnyH_ready (rs := [5, 10]) (by kernel_rfl) (by simp) (AllReadyH.cons (opOf rfl) (fun KK hKK => ?_) (AllReadyH.cons (opOf rfl) (fun KK hKK => ?_) AllReadyH.nil))
      ·
        go_simp; clear hS
        refine (S.call (wnat_any d2 HX.out.2.2 (y.den : Int) rfl)).mono ?_
        clear S
        rintro e w6 ⟨⟨_, rfl, pb, lb, Kb, rfl, nb⟩, S, H⟩
        refine iv8 H n1 d1 n2 d2 nx ny nz na ?_; clear n1 d1 n2 d2 nx ny nz na; intro n1 d1 n2 d2 nx ny nz na; replace HH := HH.trans H; clear H
        go_wp2_with fail
        refine ho hKK ⟨(S.c 0 2 rfl rfl), (S.c 1 2 rfl rfl)⟩ fun hS => ?_
        clear hKK KK
        refine wpAnyH_ready (rs := [6, 10]) (by kernel_rfl) (by simp) (AllReadyH.cons (opOf rfl) (fun KK hKK => ?_) (AllReadyH.cons (opOf rfl) (fun KK hKK => ?_) AllReadyH.nil))
        ·
          go_simp; clear hS
          refine (S.call (wmul_to ⟨_, _, _, rfl, na⟩ ⟨_, _, _, rfl, nb⟩ HX.out.1.2 HX.out.2.2 D HD.out.2.2.2.1 HB.out.2.2.2)).mono ?_
          clear S
          rintro e w7 ⟨⟨_, rfl, pd, ld, Kd, rfl, nd⟩, S, H⟩
          refine iv8 H n1 d1 n2 d2 nx ny nz na ?_; clear n1 d1 n2 d2 nx ny nz na; intro n1 d1 n2 d2 nx ny nz na; replace nb := nb.hold H; replace HH := HH.trans H; clear H
          go_wp2_with fail
          refine ho hKK ⟨(S.c 0 2 rfl rfl), (S.c 1 2 rfl rfl)⟩ fun hS => ?_
          clear hKK KK
          refine tk 7 hS ?_
          refine tk 8 hS ?_
          refine tk 9 hS ?_
          refine rd 10 fun KK hKK => ?_
          go_simp; clear hS
          have H := S.hnew 25 [.bool false, .slice none 0 0]
          replace S := S.al 25 [.bool false, .slice none 0 0] (w7.heap.size)
          refine iv8 H n1 d1 n2 d2 nx ny nz na ?_; clear n1 d1 n2 d2 nx ny nz na; intro n1 d1 n2 d2 nx ny nz na; refine iv2 H nb nd ?_; clear nb nd; intro nb nd; replace HH := HH.trans H; clear H
          refine ho hKK ⟨(S.c 0 2 rfl rfl), (S.c 1 2 rfl rfl)⟩ fun hS => ?_
          generalize (w7.alloc (.cells #[.bool false, .slice none 0 0] 25)) = w8 at S n1 d1 n2 d2 nx ny nz na nb nd HH hS ⊢
          clear hKK KK
          refine rd 11 fun KK hKK => ?_
          have c0 := S.c 6 0 rfl rfl; have f0 := S.f 6 0 rfl; have c1 := S.c 6 1 rfl rfl; have f1 := S.f 6 1 rfl; go_simp; clear hS c0 f0 c1 f1
          have H := S.hset 6 0 (.bool (negB D)) rfl rfl (by intro q n e; cases e)
          replace S := S.set 6 0 (.bool (negB D)) rfl
          refine iv8 H n1 d1 n2 d2 nx ny nz na ?_; clear n1 d1 n2 d2 nx ny nz na; intro n1 d1 n2 d2 nx ny nz na; refine iv2 H nb nd ?_; clear nb nd; intro nb nd; replace HH := HH.trans H; clear H
          have H := S.hset 6 1 (.slice pd ld Kd) rfl rfl (by intro q n e; cases e)
          replace S := S.set 6 1 (.slice pd ld Kd) rfl
          refine iv8 H n1 d1 n2 d2 nx ny nz na ?_; clear n1 d1 n2 d2 nx ny nz na; intro n1 d1 n2 d2 nx ny nz na; refine iv2 H nb nd ?_; clear nb nd; intro nb nd; replace HH := HH.trans H; clear H
          refine ho hKK ⟨(S.c 0 2 rfl rfl), (S.c 1 2 rfl rfl)⟩ fun hS => ?_
          generalize ((w8.setCell ⟨w7.heap.size, 0, none⟩ (.bool (negB D))).setCell ⟨w7.heap.size, 1, none⟩ (.slice pd ld Kd)) = w9 at S n1 d1 n2 d2 nx ny nz na nb nd HH hS ⊢
          clear hKK KK
          refine rd 12 fun KK hKK => ?_
          go_simp
          refine ho hKK hS fun hS => ?_
          clear hKK KK
          refine wpAnyH_done (by kernel_rfl) ?_ _
          go_wp2_with fail
          go_meet
          case rel => exact ⟨w7.heap.size, pd, ld, Kd, rfl, rfl, S, nd, HH⟩
        ·
          go_simp; clear hS
          have H := S.hnew 25 [.bool false, .slice none 0 0]
          replace S := S.al 25 [.bool false, .slice none 0 0] (w6.heap.size)
          refine iv8 H n1 d1 n2 d2 nx ny nz na ?_; clear n1 d1 n2 d2 nx ny nz na; intro n1 d1 n2 d2 nx ny nz na; replace nb := nb.hold H; replace HH := HH.trans H; clear H
          refine ho hKK ⟨(S.c 0 2 rfl rfl), (S.c 1 2 rfl rfl)⟩ fun hS => ?_
          generalize (w6.alloc (.cells #[.bool false, .slice none 0 0] 25)) = w10 at S n1 d1 n2 d2 nx ny nz na nb HH hS ⊢
          clear hKK KK
          refine rd 6 fun KK hKK => ?_
          go_simp; clear hS
          refine (S.call (wmul_to ⟨_, _, _, rfl, na⟩ ⟨_, _, _, rfl, nb⟩ HX.out.1.2 HX.out.2.2 D HD.out.2.2.2.1 HB.out.2.2.2)).mono ?_
          clear S
          rintro e w11 ⟨⟨_, rfl, pd, ld, Kd, rfl, nd⟩, S, H⟩
          refine iv8 H n1 d1 n2 d2 nx ny nz na ?_; clear n1 d1 n2 d2 nx ny nz na; intro n1 d1 n2 d2 nx ny nz na; replace nb := nb.hold H; replace HH := HH.trans H; clear H
          go_wp2_with fail
          refine ho hKK ⟨(S.c 0 2 rfl rfl), (S.c 1 2 rfl rfl)⟩ fun hS => ?_
          clear hKK KK
          refine tk 7 hS ?_
          refine tk 8 hS ?_
          refine tk 9 hS ?_
          refine rd 11 fun KK hKK => ?_
          have c0 := S.c 6 0 rfl rfl; have f0 := S.f 6 0 rfl; have c1 := S.c 6 1 rfl rfl; have f1 := S.f 6 1 rfl; go_simp; clear hS c0 f0 c1 f1
          have H := S.hset 6 0 (.bool (negB D)) rfl rfl (by intro q n e; cases e)
          replace S := S.set 6 0 (.bool (negB D)) rfl
          refine iv8 H n1 d1 n2 d2 nx ny nz na ?_; clear n1 d1 n2 d2 nx ny nz na; intro n1 d1 n2 d2 nx ny nz na; refine iv2 H nb nd ?_; clear nb nd; intro nb nd; replace HH := HH.trans H; clear H
          have H := S.hset 6 1 (.slice pd ld Kd) rfl rfl (by intro q n e; cases e)
          replace S := S.set 6 1 (.slice pd ld Kd) rfl
          refine iv8 H n1 d1 n2 d2 nx ny nz na ?_; clear n1 d1 n2 d2 nx ny nz na; intro n1 d1 n2 d2 nx ny nz na; refine iv2 H nb nd ?_; clear nb nd; intro nb nd; replace HH := HH.trans H; clear H
          refine ho hKK ⟨(S.c 0 2 rfl rfl), (S.c 1 2 rfl rfl)⟩ fun hS => ?_
          generalize ((w11.setCell ⟨w6.heap.size, 0, none⟩ (.bool (negB D))).setCell ⟨w6.heap.size, 1, none⟩ (.slice pd ld Kd)) = w12 at S n1 d1 n2 d2 nx ny nz na nb nd HH hS ⊢
          clear hKK KK
          refine rd 12 fun KK hKK => ?_
          go_simp
          refine ho hKK hS fun hS => ?_
          clear hKK KK
          refine wpAnyH_done (by kernel_rfl) ?_ _
          go_wp2_with fail
          go_meet
          case rel => exact ⟨w6.heap.size, pd, ld, Kd, rfl, rfl, S, nd, HH⟩
      ·
        go_simp; clear hS
        have H := S.hnew 25 [.bool false, .slice none 0 0]
        replace S := S.al 25 [.bool false, .slice none 0 0] (w5.heap.size)
        refine iv8 H n1 d1 n2 d2 nx ny nz na ?_; clear n1 d1 n2 d2 nx ny nz na; intro n1 d1 n2 d2 nx ny nz na; replace HH := HH.trans H; clear H
        refine ho hKK ⟨(S.c 0 2 rfl rfl), (S.c 1 2 rfl rfl)⟩ fun hS => ?_
        generalize (w5.alloc (.cells #[.bool false, .slice none 0 0] 25)) = w13 at S n1 d1 n2 d2 nx ny nz na HH hS ⊢
        clear hKK KK
        refine rd 5 fun KK hKK => ?_
        go_simp; clear hS
        refine (S.call (wnat_any d2 HX.out.2.2 (y.den : Int) rfl)).mono ?_
        clear S
        rintro e w14 ⟨⟨_, rfl, pb, lb, Kb, rfl, nb⟩, S, H⟩
        refine iv8 H n1 d1 n2 d2 nx ny nz na ?_; clear n1 d1 n2 d2 nx ny nz na; intro n1 d1 n2 d2 nx ny nz na; replace HH := HH.trans H; clear H
        go_wp2_with fail
        refine ho hKK ⟨(S.c 0 2 rfl rfl), (S.c 1 2 rfl rfl)⟩ fun hS => ?_
        clear hKK KK
        refine rd 6 fun KK hKK => ?_
        go_simp; clear hS
        refine (S.call (wmul_to ⟨_, _, _, rfl, na⟩ ⟨_, _, _, rfl, nb⟩ HX.out.1.2 HX.out.2.2 D HD.out.2.2.2.1 HB.out.2.2.2)).mono ?_
        clear S
        rintro e w15 ⟨⟨_, rfl, pd, ld, Kd, rfl, nd⟩, S, H⟩
        refine iv8 H n1 d1 n2 d2 nx ny nz na ?_; clear n1 d1 n2 d2 nx ny nz na; intro n1 d1 n2 d2 nx ny nz na; replace nb := nb.hold H; replace HH := HH.trans H; clear H
        go_wp2_with fail
        refine ho hKK ⟨(S.c 0 2 rfl rfl), (S.c 1 2 rfl rfl)⟩ fun hS => ?_
        clear hKK KK
        refine tk 7 hS ?_
        refine tk 8 hS ?_
        refine tk 9 hS ?_
        refine rd 11 fun KK hKK => ?_
        have c0 := S.c 6 0 rfl rfl; have f0 := S.f 6 0 rfl; have c1 := S.c 6 1 rfl rfl; have f1 := S.f 6 1 rfl; go_simp; clear hS c0 f0 c1 f1
        have H := S.hset 6 0 (.bool (negB D)) rfl rfl (by intro q n e; cases e)
        replace S := S.set 6 0 (.bool (negB D)) rfl
        refine iv8 H n1 d1 n2 d2 nx ny nz na ?_; clear n1 d1 n2 d2 nx ny nz na; intro n1 d1 n2 d2 nx ny nz na; refine iv2 H nb nd ?_; clear nb nd; intro nb nd; replace HH := HH.trans H; clear H
        have H := S.hset 6 1 (.slice pd ld Kd) rfl rfl (by intro q n e; cases e)
        replace S := S.set 6 1 (.slice pd ld Kd) rfl
        refine iv8 H n1 d1 n2 d2 nx ny nz na ?_; clear n1 d1 n2 d2 nx ny nz na; intro n1 d1 n2 d2 nx ny nz na; refine iv2 H nb nd ?_; clear nb nd; intro nb nd; replace HH := HH.trans H; clear H
        refine ho hKK ⟨(S.c 0 2 rfl rfl), (S.c 1 2 rfl rfl)⟩ fun hS => ?_
        generalize ((w15.setCell ⟨w5.heap.size, 0, none⟩ (.bool (negB D))).setCell ⟨w5.heap.size, 1, none⟩ (.slice pd ld Kd)) = w16 at S n1 d1 n2 d2 nx ny nz na nb nd HH hS ⊢
        clear hKK KK
        refine rd 12 fun KK hKK => ?_
        go_simp
        refine ho hKK hS fun hS => ?_
        clear hKK KK
        refine wpAnyH_done (by kernel_rfl) ?_ _
        go_wp2_with fail
        go_meet
        case rel => exact ⟨w5.heap.size, pd, ld, Kd, rfl, rfl, S, nd, HH⟩
    ·
      go_simp; clear hS
      have H := S.hnew 25 [.bool false, .slice none 0 0]
      replace S := S.al 25 [.bool false, .slice none 0 0] (w4.heap.size)
      refine iv7 H n1 d1 n2 d2 nx ny nz ?_; clear n1 d1 n2 d2 nx ny nz; intro n1 d1 n2 d2 nx ny nz; replace HH := HH.trans H; clear H
      refine ho hKK ⟨(S.c 0 2 rfl rfl), (S.c 1 2 rfl rfl)⟩ fun hS => ?_
      generalize (w4.alloc (.cells #[.bool false, .slice none 0 0] 25)) = w17 at S n1 d1 n2 d2 nx ny nz HH hS ⊢
      clear hKK KK
      refine rd 2 fun KK hKK => ?_
      go_simp; clear hS
      refine (S.call (wnat_any d1 HX.out.1.2 (x.den : Int) rfl)).mono ?_
      clear S
      rintro e w18 ⟨⟨_, rfl, pa, la, Ka, rfl, na⟩, S, H⟩
      refine iv7 H n1 d1 n2 d2 nx ny nz ?_; clear n1 d1 n2 d2 nx ny nz; intro n1 d1 n2 d2 nx ny nz; replace HH := HH.trans H; clear H
      go_wp2_with fail
      refine ho hKK ⟨(S.c 0 2 rfl rfl), (S.c 1 2 rfl rfl)⟩ fun hS => ?_
      clear hKK KK
      refine rd 5 fun KK hKK => ?_
      go_simp; clear hS
      refine (S.call (wnat_any d2 HX.out.2.2 (y.den : Int) rfl)).mono ?_
      clear S
      rintro e w19 ⟨⟨_, rfl, pb, lb, Kb, rfl, nb⟩, S, H⟩
      refine iv8 H n1 d1 n2 d2 nx ny nz na ?_; clear n1 d1 n2 d2 nx ny nz na; intro n1 d1 n2 d2 nx ny nz na; replace HH := HH.trans H; clear H
      go_wp2_with fail
      refine ho hKK ⟨(S.c 0 2 rfl rfl), (S.c 1 2 rfl rfl)⟩ fun hS => ?_
      clear hKK KK
      refine rd 6 fun KK hKK => ?_
      go_simp; clear hS
      refine (S.call (wmul_to ⟨_, _, _, rfl, na⟩ ⟨_, _, _, rfl, nb⟩ HX.out.1.2 HX.out.2.2 D HD.out.2.2.2.1 HB.out.2.2.2)).mono ?_
      clear S
      rintro e w20 ⟨⟨_, rfl, pd, ld, Kd, rfl, nd⟩, S, H⟩
      refine iv8 H n1 d1 n2 d2 nx ny nz na ?_; clear n1 d1 n2 d2 nx ny nz na; intro n1 d1 n2 d2 nx ny nz na; replace nb := nb.hold H; replace HH := HH.trans H; clear H
      go_wp2_with fail
      refine ho hKK ⟨(S.c 0 2 rfl rfl), (S.c 1 2 rfl rfl)⟩ fun hS => ?_
      clear hKK KK
      refine tk 7 hS ?_
      refine tk 8 hS ?_
      refine tk 9 hS ?_
      refine rd 11 fun KK hKK => ?_
      have c0 := S.c 6 0 rfl rfl; have f0 := S.f 6 0 rfl; have c1 := S.c 6 1 rfl rfl; have f1 := S.f 6 1 rfl; go_simp; clear hS c0 f0 c1 f1
      have H := S.hset 6 0 (.bool (negB D)) rfl rfl (by intro q n e; cases e)
      replace S := S.set 6 0 (.bool (negB D)) rfl
      refine iv8 H n1 d1 n2 d2 nx ny nz na ?_; clear n1 d1 n2 d2 nx ny nz na; intro n1 d1 n2 d2 nx ny nz na; refine iv2 H nb nd ?_; clear nb nd; intro nb nd; replace HH := HH.trans H; clear H
      have H := S.hset 6 1 (.slice pd ld Kd) rfl rfl (by intro q n e; cases e)
      replace S := S.set 6 1 (.slice pd ld Kd) rfl
      refine iv8 H n1 d1 n2 d2 nx ny nz na ?_; clear n1 d1 n2 d2 nx ny nz na; intro n1 d1 n2 d2 nx ny nz na; refine iv2 H nb nd ?_; clear nb nd; intro nb nd; replace HH := HH.trans H; clear H
      refine ho hKK ⟨(S.c 0 2 rfl rfl), (S.c 1 2 rfl rfl)⟩ fun hS => ?_
      generalize ((w20.setCell ⟨w4.heap.size, 0, none⟩ (.bool (negB D))).setCell ⟨w4.heap.size, 1, none⟩ (.slice pd ld Kd)) = w21 at S n1 d1 n2 d2 nx ny nz na nb nd HH hS ⊢
      clear hKK KK
      refine rd 12 fun KK hKK => ?_
      go_simp
      refine ho hKK hS fun hS => ?_
      clear hKK KK
      refine wpAnyH_done (by kernel_rfl) ?_ _
      go_wp2_with fail
      go_meet
      case rel => exact ⟨w4.heap.size, pd, ld, Kd, rfl, rfl, S, nd, HH⟩
  case rest =>
    obtain ⟨g10, pd, ld, Kd, rfl, rfl, S, nd, HH⟩ := hcut
    obtain ⟨w22, rfl⟩ : ∃ W : World, W = wc := ⟨_, rfl⟩
    refine iv7 HH n1 d1 n2 d2 nx ny nz ?_; clear n1 d1 n2 d2 nx ny nz; intro n1 d1 n2 d2 nx ny nz; clear HH; obtain ⟨c0_0, c0_1, c0_2⟩ := S.c3 0 rfl; obtain ⟨c1_0, c1_1, c1_2⟩ := S.c3 1 rfl; obtain ⟨c2_0, c2_1, c2_2⟩ := S.c3 2 rfl; have c3_0 := S.c 3 0 rfl rfl; have c3_1 := S.c 3 1 rfl rfl; have c4_0 := S.c 4 0 rfl rfl; have c4_1 := S.c 4 1 rfl rfl; have c5_0 := S.c 5 0 rfl rfl; have c5_1 := S.c 5 1 rfl rfl; have c6_0 := S.c 6 0 rfl rfl; have c6_1 := S.c 6 1 rfl rfl
    go_upto_region 6 with fail
    clear c0_0 c0_1 c0_2 c1_0 c1_1 c1_2 c2_0 c2_1 c2_2 c3_0 c3_1 c4_0 c4_1 c5_0 c5_1 c6_0 c6_1
    have HH := Hold.drew w22
    refine iv8 HH n1 d1 n2 d2 nx ny nz nd ?_; clear n1 d1 n2 d2 nx ny nz nd; intro n1 d1 n2 d2 nx ny nz nd
    replace S := S.drew
    refine wp_region_held_drew (S := fun W => W.cell? ⟨w2.heap.size, 0, none⟩ = some (.bool (negB Z)) ∧ W.cell? ⟨w2.heap.size, 1, none⟩ = some (.slice pz lz Kz) ∧ W.cell? ⟨g10, 0, none⟩ = some (.bool (negB D)) ∧ W.cell? ⟨g10, 1, none⟩ = some (.slice pd ld Kd)) (by kernel_rfl) ⟨(S.c 5 0 rfl rfl), ⟨(S.c 5 1 rfl rfl), ⟨(S.c 6 0 rfl rfl), (S.c 6 1 rfl rfl)⟩⟩⟩ (fun hS => ?_)
    generalize w22.drew = w23 at S n1 d1 n2 d2 nx ny nz nd HH hS ⊢
    refine tk 0 hS ?_
    refine tk 1 hS ?_
    refine tk 2 hS ?_
    refine tk 3 hS ?_
    refine rd 4 fun KK hKK => ?_
    go_simp; clear hS
    have H := S.hnew 36 [.int .i64 0, .int .i64 0]
    replace S := S.al 36 [.int .i64 0, .int .i64 0] (w23.heap.size)
    refine iv8 H n1 d1 n2 d2 nx ny nz nd ?_; clear n1 d1 n2 d2 nx ny nz nd; intro n1 d1 n2 d2 nx ny nz nd; replace HH := HH.trans H; clear H
    refine ho hKK ⟨(S.c 5 0 rfl rfl), ⟨(S.c 5 1 rfl rfl), ⟨(S.c 6 0 rfl rfl), (S.c 6 1 rfl rfl)⟩⟩⟩ fun hS => ?_
    generalize (w23.alloc (.cells #[.int .i64 0, .int .i64 0] 36)) = w24 at S n1 d1 n2 d2 nx ny nz nd HH hS ⊢
    clear hKK KK
    refine rd 5 fun KK hKK => ?_
    go_simp; clear hS
    refine (S.call (or_two S 7 rfl)).mono ?_
    clear S
    rintro e w25 ⟨rfl, S, H⟩
    refine iv8 H n1 d1 n2 d2 nx ny nz nd ?_; clear n1 d1 n2 d2 nx ny nz nd; intro n1 d1 n2 d2 nx ny nz nd; replace HH := HH.trans H; clear H
    go_wp2_with fail
    refine ho hKK ⟨(S.c 5 0 rfl rfl), ⟨(S.c 5 1 rfl rfl), ⟨(S.c 6 0 rfl rfl), (S.c 6 1 rfl rfl)⟩⟩⟩ fun hS => ?_
    clear hKK KK
    refine rd 6 fun KK hKK => ?_
    go_simp; clear hS
    refine (S.call (over_any ⟨_, _, _, rfl, nz⟩ ⟨_, _, _, rfl, nd⟩ HB.out.2.2.1 HB.out.2.2.2 HD.out.2.2.2.2.2 q HD.out.2.2.2.2.1)).mono ?_
    clear S
    rintro e w26 ⟨⟨_, rfl, b, p, l, K, q', j, J, rfl, hb, nn, dd⟩, S, H⟩
    refine iv8 H n1 d1 n2 d2 nx ny nz nd ?_; clear n1 d1 n2 d2 nx ny nz nd; intro n1 d1 n2 d2 nx ny nz nd; replace HH := HH.trans H; clear H
    go_wp2_with fail
    refine ho hKK ⟨(S.c 5 0 rfl rfl), ⟨(S.c 5 1 rfl rfl), ⟨(S.c 6 0 rfl rfl), (S.c 6 1 rfl rfl)⟩⟩⟩ fun hS => ?_
    clear hKK KK
    refine tk 7 hS ?_
    refine tk 8 hS ?_
    refine rd 9 fun KK hKK => ?_
    obtain ⟨c0, c1, c2⟩ := S.c3 2 rfl; obtain ⟨f0, f1, f2⟩ := S.f3 2 rfl
    go_simp; clear hS c0 f0 c1 f1 c2 f2
    have HP := S.putq 2 (.bool b) (.slice p l K) (.slice q' j J) rfl rfl; have H := HP.2; replace S := HP.1; clear HP
    refine iv8 H n1 d1 n2 d2 nx ny nz nd ?_; clear n1 d1 n2 d2 nx ny nz nd; intro n1 d1 n2 d2 nx ny nz nd; refine iv2 H nn dd ?_; clear nn dd; intro nn dd; replace HH := HH.trans H; clear H
    refine ho hKK ⟨(S.c 5 0 rfl rfl), ⟨(S.c 5 1 rfl rfl), ⟨(S.c 6 0 rfl rfl), (S.c 6 1 rfl rfl)⟩⟩⟩ fun hS => ?_
    generalize (((w26.setCell ⟨w.heap.size + 1 + 1, 0, none⟩ (.bool b)).setCell ⟨w.heap.size + 1 + 1, 1, none⟩ (.slice p l K)).setCell ⟨w.heap.size + 1 + 1, 2, none⟩ (.slice q' j J)) = w27 at S n1 d1 n2 d2 nx ny nz nd nn dd HH hS ⊢
    clear hKK KK
    refine rd 10 fun KK hKK => ?_
    go_simp
    refine ho hKK hS fun hS => ?_
    clear hKK KK
    refine wpAnyH_done (by kernel_rfl) ?_ _
    clear hS HH; obtain ⟨c0_0, c0_1, c0_2⟩ := S.c3 0 rfl; obtain ⟨c1_0, c1_1, c1_2⟩ := S.c3 1 rfl; obtain ⟨c2_0, c2_1, c2_2⟩ := S.c3 2 rfl; have c3_0 := S.c 3 0 rfl rfl; have c3_1 := S.c 3 1 rfl rfl; have c4_0 := S.c 4 0 rfl rfl; have c4_1 := S.c 4 1 rfl rfl; have c5_0 := S.c 5 0 rfl rfl; have c5_1 := S.c 5 1 rfl rfl; have c6_0 := S.c 6 0 rfl rfl; have c6_1 := S.c 6 1 rfl rfl; go_wp2_with fail; obtain ⟨d2_0, d2_1, d2_2⟩ := S.c3 2 rfl
    exact bodyPost_ret (v := .tuple #[.agg #[.bool b, .slice p l K, .slice q' j J], .int .i64 0]) (by simp [results, Tryz.f18, go_sem, d2_0, d2_1, d2_2]) rfl (⟨⟨_, rfl, b, p, l, K, q', j, J, rfl, hb, nn, dd⟩, S.below⟩)
def sumR (Z : Nat → Rat) : Nat → Rat
  | 0 => 0
  | k + 1 => sumR Z k + Z k
theorem rb_zero : RB 0 1 := ⟨by show Int.natAbs 0 < _; exact NB_pos 1, by show 1 < NB 1; rw [NB_one]; decide⟩
theorem rb_sum {Z : Nat → Rat} {n c : Nat} (h : ∀ j, j < n → RB (Z j) c) : ∀ j, j ≤ n → RB (sumR Z j) ((c + 1) * j + 1)
  | 0, _ => rb_zero
  | j + 1, hj => by
    have h1 := rb_add (rb_sum h j (by omega)) (h j (by omega))
    exact h1.mono (by rw [Nat.mul_add]; omega)
def RatsAt (w : World) (g n : Nat) (B : Nat → Bool) (P P' : Nat → Option Addr) (l l' K K' : Nat → Nat) (Z : Nat → Rat) : Prop :=
  g < w.heap.size ∧ ∀ j, j < n → w.cell? ⟨g, j * 3, none⟩ = some (.bool (B j)) ∧ w.cell? ⟨g, j * 3 + 1, none⟩ = some (.slice (P j) (l j) (K j)) ∧ w.cell? ⟨g, j * 3 + 2, none⟩ = some (.slice (P' j) (l' j) (K' j)) ∧ negB (Z j).num = B j ∧ IsNat w (.slice (P j) (l j) (K j)) (Z j).num.natAbs ∧ IsNat w (.slice (P' j) (l' j) (K' j)) (Z j).den
set_option maxRecDepth 100000 in
set_option maxHeartbeats 2000000 in
theorem rsum_any (g n : Nat) (B : Nat → Bool) (P P' : Nat → Option Addr) (l l' K K' : Nat → Nat) (Z : Nat → Rat) (w : World) (h : RatsAt w g n B P P' l l' K K' Z) (c : Nat) (hZ : ∀ j, j < n → RB (Z j) c) (hn : n ≤ 100) (hc : (c + 1) * n + 1 + c ≤ 511) :
    Calls Tryz.prog 21 #[.slice (some ⟨g, 0, none⟩) n n] w fun e w' => (∃ u, e = .returned (.tuple #[u, .int .i64 0]) ∧ IsRat w' u (sumR Z n)) ∧ Below w.heap.size w w' := by
  have HZ := Lib.hid (And.intro hZ (And.intro (rb_sum hZ) hc))
  have HI := Lib.hid h
  clear hZ hc h
  have S := (St.start w).alloc 34 [.bool false, .slice none 0 0, .slice none 0 0] (w.heap.size)
  try simp only [List.nil_append] at S
  obtain ⟨c0_0, c0_1, c0_2⟩ := S.c3 0 rfl
  go_enter Tryz.func21, Tryz.ntmps21
  go_wp2_with fail; clear c0_0 c0_1 c0_2
  refine (S.call (rzero_any _)).mono ?_
  clear S
  rintro e w1 ⟨⟨_, rfl, bz, pz, lz, Kz, qz, jz, Jz, rfl, hbz, nz, dz⟩, S, H⟩
  clear H; obtain ⟨c0_0, c0_1, c0_2⟩ := S.c3 0 rfl
  have H := S.hnew 34 [.bool bz, .slice pz lz Kz, .slice qz jz Jz]
  replace S := S.al 34 [.bool bz, .slice pz lz Kz, .slice qz jz Jz] (w1.heap.size)
  replace nz := nz.hold H; replace dz := dz.hold H
  clear H; go_wp2_with fail; clear c0_0 c0_1 c0_2
  go_loopw [11] (fun si wr => ∃ k : Nat, k ≤ n ∧ si = .int .i64 k ∧ ∃ b p l1 K1 q j J, Hid (negB (sumR Z k).num = b) ∧ IsNat wr (.slice p l1 K1) (sumR Z k).num.natAbs ∧ IsNat wr (.slice q j J) (sumR Z k).den ∧ St w wr [(w.heap.size, 34, [.bool false, .slice none 0 0, .slice none 0 0]), (w1.heap.size, 34, [.bool b, .slice p l1 K1, .slice q j J])]) (fun si _ => n - (intOf si).toNat)
  case atStart => exact ⟨0, by omega, rfl, _, _, _, _, _, _, _, hbz, nz, dz, S⟩
  case round =>
    clear nz dz S
    obtain ⟨k, hk, rfl, b, p, l1, K1, q, j, J, hb, nn, dd, S⟩ := hrel
    by_cases hlt : k < n
    · have hI := HI.out.2 k hlt
      have hgb := HI.out.1
      have a0 := (S.below.cell (p := ⟨g, k * 3, none⟩) hgb).trans hI.1
      have a1 := (S.below.cell (p := ⟨g, k * 3 + 1, none⟩) hgb).trans hI.2.1
      have a2 := (S.below.cell (p := ⟨g, k * 3 + 2, none⟩) hgb).trans hI.2.2.1
      have na := hI.2.2.2.2.1.below S.below (Nat.le_refl _)
      have da := hI.2.2.2.2.2.below S.below (Nat.le_refl _)
      have HBk := Lib.hid hI.2.2.2.1
      have HL := Lib.hid hlt
      have hki : (k : Int) < ((n : Nat) : Int) := by omega
      clear hI hgb hlt
      have H := S.hnew 34 [.bool (B k), .slice (P k) (l k) (K k), .slice (P' k) (l' k) (K' k)]
      replace S := S.al 34 [.bool (B k), .slice (P k) (l k) (K k), .slice (P' k) (l' k) (K' k)] (wr.heap.size)
      refine iv4 H nn dd na da ?_; clear nn dd na da; intro nn dd na da
      clear H; obtain ⟨c0_0, c0_1, c0_2⟩ := S.c3 0 rfl; obtain ⟨c1_0, c1_1, c1_2⟩ := S.c3 1 rfl; obtain ⟨c2_0, c2_1, c2_2⟩ := S.c3 2 rfl; go_wp2_with fail; clear c0_0 c0_1 c0_2 c1_0 c1_1 c1_2 c2_0 c2_1 c2_2
      refine (S.call (radd_any ⟨b, p, l1, K1, q, j, J, rfl, hb, nn, dd⟩ ⟨B k, P k, l k, K k, P' k, l' k, K' k, rfl, HBk.out, na, da⟩ (HZ.out.2.1 k hk) (HZ.out.1 k HL.out) (by have := HZ.out.2.2; have := Nat.mul_le_mul_left (c + 1) hk; omega) (sumR Z (k + 1)) rfl)).mono ?_
      clear S
      rintro e w21 ⟨⟨_, rfl, b2, p2, l2, K2, q2, j2, J2, rfl, hb2, n2, d2⟩, S, H⟩
      refine iv4 H nn dd na da ?_; clear nn dd na da; intro nn dd na da
      clear H; obtain ⟨c0_0, c0_1, c0_2⟩ := S.c3 0 rfl; obtain ⟨c1_0, c1_1, c1_2⟩ := S.c3 1 rfl; obtain ⟨c2_0, c2_1, c2_2⟩ := S.c3 2 rfl
      obtain ⟨f1_0, f1_1, f1_2⟩ := S.f3 1 rfl
      have HP := S.putq 1 (.bool b2) (.slice p2 l2 K2) (.slice q2 j2 J2) rfl rfl; have H := HP.2; replace S := HP.1; clear HP
      refine iv6 H nn dd na da n2 d2 ?_; clear nn dd na da n2 d2; intro nn dd na da n2 d2
      clear H; go_wp2_with fail
      replace S := S.take 2 (L := [(w.heap.size, 34, [.bool false, .slice none 0 0, .slice none 0 0]), (w1.heap.size, 34, [.bool b2, .slice p2 l2 K2, .slice q2 j2 J2])]) rfl
      go_roundw
      case rel => exact ⟨k + 1, HL.out, by go_num, _, _, _, _, _, _, _, hb2, n2, d2, S⟩
      case measure => have := HL.out; simp [intOf]; omega
    · have hki : ¬ (k : Int) < ((n : Nat) : Int) := by omega
      have HK := Lib.hid (show k = n by omega)
      clear hlt; obtain ⟨c0_0, c0_1, c0_2⟩ := S.c3 0 rfl; obtain ⟨c1_0, c1_1, c1_2⟩ := S.c3 1 rfl
      obtain ⟨f0_0, f0_1, f0_2⟩ := S.f3 0 rfl
      have HP := S.putq 0 (.bool b) (.slice p l1 K1) (.slice q j J) rfl rfl; have H := HP.2; replace S := HP.1; clear HP
      replace nn := nn.hold H; replace dd := dd.hold H
      clear H; go_wp2_with fail; obtain ⟨d0_0, d0_1, d0_2⟩ := S.c3 0 rfl
      exact bodyPost_ret (v := .tuple #[.agg #[.bool b, .slice p l1 K1, .slice q j J], .int .i64 0]) (by simp [results, Tryz.f21, go_sem, d0_0, d0_1, d0_2]) rfl (⟨⟨_, rfl, by rw [← HK.out]; exact ⟨b, p, l1, K1, q, j, J, rfl, hb, nn, dd⟩⟩, S.below⟩)
def sumL : List Rat → Rat
  | [] => 0
  | q :: qs => q + sumL qs
theorem sumL_snoc : ∀ (qs : List Rat) (q : Rat), sumL (qs ++ [q]) = sumL qs + q
  | [], q => by simp only [sumL, List.nil_append]; grind
  | p :: qs, q => by simp [sumL, sumL_snoc qs q, Rat.add_assoc]
theorem sumR_take (qs : List Rat) : ∀ n, n ≤ qs.length → sumR (fun j => qs.getD j 0) n = sumL (qs.take n)
  | 0, _ => by simp [sumR, sumL]
  | n + 1, h => by
    have hq : qs[n]? = some qs[n] := List.getElem?_eq_getElem h
    rw [List.take_add_one, hq, sumR, sumR_take qs n (by omega)]
    simp only [Option.toList_some, sumL_snoc, List.getD, hq, Option.getD_some]
theorem FreshR.at {w W : World} {v : Value} {qs : List Rat} (h : FreshR w W v qs) : ∃ g B P P' l l' K K', v = .slice (some ⟨g, 0, none⟩) qs.length qs.length ∧ RatsAt W g qs.length B P P' l l' K K' (fun j => qs.getD j 0) := by
  obtain ⟨g, vs, e, hg, hh, hr⟩ := h
  have ha := ArrAt.of_heap hh
  have each : ∀ j, j < qs.length → ∃ t : Bool × (Option Addr × Nat × Nat) × Option Addr × Nat × Nat, W.cell? ⟨g, j * 3, none⟩ = some (.bool t.1) ∧ W.cell? ⟨g, j * 3 + 1, none⟩ = some (.slice t.2.1.1 t.2.1.2.1 t.2.1.2.2) ∧ W.cell? ⟨g, j * 3 + 2, none⟩ = some (.slice t.2.2.1 t.2.2.2.1 t.2.2.2.2) ∧ negB (qs.getD j 0).num = t.1 ∧
      IsNat W (.slice t.2.1.1 t.2.1.2.1 t.2.1.2.2) (qs.getD j 0).num.natAbs ∧ IsNat W (.slice t.2.2.1 t.2.2.2.1 t.2.2.2.2) (qs.getD j 0).den := by
    intro j hj
    have hq : qs[j]? = some qs[j] := List.getElem?_eq_getElem hj
    obtain ⟨v0, v1, v2, e0, e1, e2, b, p, l, K, p', l', K', rfl, rfl, rfl, hb, n1, n2⟩ := hr.get hq
    have a0 := ha _ _ e0
    have a1 := ha _ _ e1
    have a2 := ha _ _ e2
    rw [Nat.zero_add] at a0 a1 a2
    have hd : qs.getD j 0 = qs[j] := by simp [List.getD, hq]
    rw [hd]
    exact ⟨(b, (p, l, K), p', l', K'), a0, a1, a2, hb.out, n1, n2⟩
  have hex : ∃ f : Nat → Bool × (Option Addr × Nat × Nat) × Option Addr × Nat × Nat, ∀ j, j < qs.length → W.cell? ⟨g, j * 3, none⟩ = some (.bool (f j).1) ∧ W.cell? ⟨g, j * 3 + 1, none⟩ = some (.slice (f j).2.1.1 (f j).2.1.2.1 (f j).2.1.2.2) ∧ W.cell? ⟨g, j * 3 + 2, none⟩ = some (.slice (f j).2.2.1 (f j).2.2.2.1 (f j).2.2.2.2) ∧ negB (qs.getD j 0).num = (f j).1 ∧
      IsNat W (.slice (f j).2.1.1 (f j).2.1.2.1 (f j).2.1.2.2) (qs.getD j 0).num.natAbs ∧ IsNat W (.slice (f j).2.2.1 (f j).2.2.2.1 (f j).2.2.2.2) (qs.getD j 0).den :=
    ⟨fun j => if h : j < qs.length then Classical.choose (each j h) else (false, (none, 0, 0), none, 0, 0), fun j hj => by simp only [hj, dif_pos]; exact Classical.choose_spec (each j hj)⟩
  obtain ⟨f, hf⟩ := hex
  exact ⟨g, fun j => (f j).1, fun j => (f j).2.1.1, fun j => (f j).2.2.1, fun j => (f j).2.1.2.1, fun j => (f j).2.2.2.1, fun j => (f j).2.1.2.2, fun j => (f j).2.2.2.2, e, lt_of_heap hh, fun j hj => hf j hj⟩
def dotL (xs ys : List Rat) : Rat := sumL (List.zipWith (· * ·) xs ys)
set_option maxRecDepth 100000 in
set_option maxHeartbeats 4000000 in
theorem vdot_any {va vb : Value} {xs ys : List Rat} {w : World} (ha : Rats w va xs) (hb : Rats w vb ys) (n : Nat) (hla : xs.length = n) (hlb : ys.length = n) (hn : n ≤ 100) {k1 k2 : Nat} (hx : ∀ q, q ∈ xs → RB q k1) (hy : ∀ q, q ∈ ys → RB q k2) (hk : (k1 + k2 + 1) * n + 1 + (k1 + k2) ≤ 511) :
    Calls Tryz.prog 38 #[va, vb] w fun e w' => (∃ u, e = .returned (.tuple #[u, .int .i64 0]) ∧ IsRat w' u (dotL xs ys)) ∧ Below w.heap.size w w' := by
  have hz : (List.zipWith (· * ·) xs ys).length = n := by simp [hla, hlb]
  have hZ : ∀ j, j < n → RB ((List.zipWith (· * ·) xs ys).getD j 0) (k1 + k2) := by
    intro j hj
    have h1 : xs[j]? = some (xs[j]'(by omega)) := List.getElem?_eq_getElem _
    have h2 : ys[j]? = some (ys[j]'(by omega)) := List.getElem?_eq_getElem _
    have : (List.zipWith (· * ·) xs ys).getD j 0 = xs[j]'(by omega) * ys[j]'(by omega) := by
      simp [List.getD, List.getElem?_zipWith, h1, h2]
    rw [this]
    exact rb_mul (hx _ (List.getElem_mem _)) (hy _ (List.getElem_mem _))
  have HV := Lib.hid (fun (W : World) (hB : Below w.heap.size w W) => vpair_any (ha.to hB) (hb.to hB) n hla hlb (by omega) 20 (· * ·) (fun _ _ _ => by kernel_rfl) (fun W u v k x y h1 h2 hu hv => rmul_any hu hv (hx x (List.mem_of_getElem? h1)) (hy y (List.mem_of_getElem? h2)) (by omega) _ rfl))
  have HZ := Lib.hid (And.intro hZ (And.intro hk (And.intro hz hn)))
  clear ha hb hla hlb hn hx hy hk hz hZ
  have S := (St.start w).alloc 34 [.bool false, .slice none 0 0, .slice none 0 0] (w.heap.size)
  try simp only [List.nil_append] at S
  obtain ⟨c0_0, c0_1, c0_2⟩ := S.c3 0 rfl
  go_enter Tryz.func38, Tryz.ntmps38
  go_wp2_with fail; clear c0_0 c0_1 c0_2
  refine (S.call (HV.out _ S.below)).mono ?_
  clear S
  rintro e w1 ⟨⟨v, rfl, hv⟩, S, H⟩
  clear H; obtain ⟨c0_0, c0_1, c0_2⟩ := S.c3 0 rfl
  obtain ⟨g, B, P, P', l, l', K, K', rfl, hat⟩ := hv.at
  rw [HZ.out.2.2.1] at hat ⊢
  have HA := Lib.hid hat
  clear hat hv; go_wp2_with fail; clear c0_0 c0_1 c0_2
  refine (S.call (rsum_any g n B P P' l l' K K' _ _ HA.out (k1 + k2) HZ.out.1 HZ.out.2.2.2 HZ.out.2.1)).mono ?_
  clear S
  rintro e w2 ⟨⟨_, rfl, b1, p1, l1, K1, q1, j1, J1, rfl, h1, n1, d1⟩, S, H⟩
  clear H; obtain ⟨c0_0, c0_1, c0_2⟩ := S.c3 0 rfl
  obtain ⟨f0_0, f0_1, f0_2⟩ := S.f3 0 rfl
  have HP := S.putq 0 (.bool b1) (.slice p1 l1 K1) (.slice q1 j1 J1) rfl rfl; have H := HP.2; replace S := HP.1; clear HP
  replace n1 := n1.hold H; replace d1 := d1.hold H
  clear H; go_wp2_with fail
  have e : sumR (fun j => (List.zipWith (· * ·) xs ys).getD j 0) n = dotL xs ys := by
    rw [sumR_take _ n (by rw [HZ.out.2.2.1]; exact Nat.le_refl _), List.take_of_length_le (by rw [HZ.out.2.2.1]; exact Nat.le_refl _)]
    rfl
  rw [e] at h1 n1 d1
  clear c0_0 c0_1 c0_2 f0_0 f0_1 f0_2; go_wp2_with fail; obtain ⟨d0_0, d0_1, d0_2⟩ := S.c3 0 rfl
  exact bodyPost_ret (v := .tuple #[.agg #[.bool b1, .slice p1 l1 K1, .slice q1 j1 J1], .int .i64 0]) (by simp [results, Tryz.f38, go_sem, d0_0, d0_1, d0_2]) rfl (⟨⟨_, rfl, b1, p1, l1, K1, q1, j1, J1, rfl, h1, n1, d1⟩, S.below⟩)
set_option maxRecDepth 100000 in
set_option maxHeartbeats 4000000 in
theorem vadd_any {va vb : Value} {xs ys : List Rat} {w : World} (ha : Rats w va xs) (hb : Rats w vb ys) (n : Nat) (hla : xs.length = n) (hlb : ys.length = n) (hn : n ≤ 1000000) {k1 k2 : Nat} (hx : ∀ q, q ∈ xs → RB q k1) (hy : ∀ q, q ∈ ys → RB q k2) (hk : k1 + k2 ≤ 511) :
    Calls Tryz.prog 34 #[va, vb] w fun e w' => (∃ v, e = .returned (.tuple #[v, .int .i64 0]) ∧ FreshR w w' v (List.zipWith (· + ·) xs ys)) ∧ Below w.heap.size w w' := by
  have HV := Lib.hid (vpair_any ha hb n hla hlb hn 18 (· + ·) (fun _ _ _ => by kernel_rfl) (fun W u v k x y h1 h2 hu hv => radd_any hu hv (hx x (List.mem_of_getElem? h1)) (hy y (List.mem_of_getElem? h2)) hk _ rfl))
  clear ha hb hla hlb hn hx hy hk
  have S := St.start w
  go_enter Tryz.func34, Tryz.ntmps34
  go_wp2_with fail
  refine (S.call (HV.out)).mono ?_
  clear S
  rintro e w1 ⟨⟨v, rfl, hv⟩, S, H⟩
  clear H; go_wp2_with fail
  exact bodyPost_ret (v := .tuple #[v, .int .i64 0]) (by simp [results, Tryz.f34, go_sem]) rfl (⟨⟨_, rfl, hv⟩, S.below⟩)
set_option maxRecDepth 100000 in
set_option maxHeartbeats 4000000 in
theorem rneg_any {va : Value} {x : Rat} {w : World} (ha : IsRat w va x) (hx : x.num.natAbs < maxN ∧ x.den < maxN) (q : Rat) (hq : -x = q) :
    Calls Tryz.prog 81 #[va] w fun e w' => (∃ u, e = .returned u ∧ IsRat w' u q) ∧ Below w.heap.size w w' := by
  obtain ⟨b1, p1, l1, K1, q1, j1, J1, rfl, hb1, n1, d1⟩ := ha
  have HX := Lib.hid hx
  have HQ := Lib.hid (And.intro (show q.num = -x.num by rw [← hq, Rat.neg_num]) (show q.den = x.den by rw [← hq, Rat.neg_den]))
  clear hx hq
  have S := ((St.start w).alloc 34 [.bool b1, .slice p1 l1 K1, .slice q1 j1 J1] (w.heap.size)).alloc 34 [.bool false, .slice none 0 0, .slice none 0 0] (w.heap.size + 1)
  try simp only [List.cons_append, List.nil_append] at S
  replace n1 := n1.hold S.hold; replace d1 := d1.hold S.hold
  obtain ⟨c0_0, c0_1, c0_2⟩ := S.c3 0 rfl; obtain ⟨c1_0, c1_1, c1_2⟩ := S.c3 1 rfl
  go_enter Tryz.func81, Tryz.ntmps81
  go_upto_region 1 with fail
  clear c0_0 c0_1 c0_2 c1_0 c1_1 c1_2
  generalize ((w.alloc (.cells #[.bool b1, .slice p1 l1 K1, .slice q1 j1 J1] 34)).alloc (.cells #[.bool false, .slice none 0 0, .slice none 0 0] 34)) = w1 at S n1 d1 ⊢
  have HH := Hold.drew w1
  replace n1 := n1.hold HH; replace d1 := d1.hold HH
  replace S := S.drew
  refine wp_region_held_drew (S := fun W => W.cell? ⟨w.heap.size, 0, none⟩ = some (.bool b1) ∧ W.cell? ⟨w.heap.size, 1, none⟩ = some (.slice p1 l1 K1) ∧ W.cell? ⟨w.heap.size, 2, none⟩ = some (.slice q1 j1 J1)) (by kernel_rfl) (S.c3 0 rfl) (fun hS => ?_)
  generalize w1.drew = w2 at S n1 d1 HH hS ⊢
  refine tk 0 hS ?_
  refine tk 1 hS ?_
  refine tk 3 hS ?_
  refine tk 4 hS ?_
  refine rd 2 fun KK hKK => ?_
  go_simp; clear hS
  refine (S.call (wneg_to ⟨_, _, _, by rw [hb1.out], n1⟩ HX.out.1 (-x.num) rfl)).mono ?_
  clear S
  rintro e w3 ⟨⟨_, rfl, pa, la, Ka, rfl, na⟩, S, H⟩
  replace n1 := n1.hold H; replace d1 := d1.hold H; replace HH := HH.trans H; clear H
  go_wp2_with fail
  refine ho hKK (S.c3 0 rfl) fun hS => ?_
  clear hKK KK
  refine rd 5 fun KK hKK => ?_
  go_simp; clear hS
  refine (S.call (clone_any d1 HX.out.2)).mono ?_
  clear S
  rintro e w4 ⟨⟨_, rfl, nc⟩, S, H⟩
  refine iv3 H n1 d1 na ?_; clear n1 d1 na; intro n1 d1 na; replace HH := HH.trans H; clear H
  obtain ⟨pc, lc, Kc, rfl⟩ := nc.form
  go_wp2_with fail
  refine ho hKK (S.c3 0 rfl) fun hS => ?_
  clear hKK KK
  refine tk 6 hS ?_
  refine rd 7 fun KK hKK => ?_
  obtain ⟨c0, c1, c2⟩ := S.c3 1 rfl; obtain ⟨f0, f1, f2⟩ := S.f3 1 rfl
  go_simp; clear hS c0 f0 c1 f1 c2 f2
  have HP := S.putq 1 (.bool (negB (-x.num))) (.slice pa la Ka) (.slice pc lc Kc) rfl rfl; have H := HP.2; replace S := HP.1; clear HP
  refine iv4 H n1 d1 na nc ?_; clear n1 d1 na nc; intro n1 d1 na nc; replace HH := HH.trans H; clear H
  refine ho hKK (S.c3 0 rfl) fun hS => ?_
  generalize (((w4.setCell ⟨w.heap.size + 1, 0, none⟩ (.bool (negB (-x.num)))).setCell ⟨w.heap.size + 1, 1, none⟩ (.slice pa la Ka)).setCell ⟨w.heap.size + 1, 2, none⟩ (.slice pc lc Kc)) = w5 at S n1 d1 na nc HH hS ⊢
  clear hKK KK
  refine wpAnyH_done (by kernel_rfl) ?_ _
  clear hS HH; obtain ⟨c0_0, c0_1, c0_2⟩ := S.c3 0 rfl; obtain ⟨c1_0, c1_1, c1_2⟩ := S.c3 1 rfl; go_wp2_with fail; obtain ⟨d1_0, d1_1, d1_2⟩ := S.c3 1 rfl
  exact bodyPost_ret (v := .agg #[.bool (negB (-x.num)), .slice pa la Ka, .slice pc lc Kc]) (by simp [results, Tryz.f81, go_sem, d1_0, d1_1, d1_2]) rfl (⟨⟨_, rfl, _, pa, la, Ka, pc, lc, Kc, rfl, by rw [HQ.out.1]; rfl, by rw [HQ.out.1]; exact na, by rw [HQ.out.2]; exact nc⟩, S.below⟩)
set_option maxRecDepth 100000 in
set_option maxHeartbeats 4000000 in
theorem rsub_any {va vb : Value} {x y : Rat} {w : World} (ha : IsRat w va x) (hb : IsRat w vb y) {k1 k2 : Nat} (hx : RB x k1) (hy : RB y k2) (hk : k1 + k2 ≤ 511) (q : Rat) (hq : x - y = q) :
    Calls Tryz.prog 19 #[va, vb] w fun e w' => (∃ u, e = .returned (.tuple #[u, .int .i64 0]) ∧ IsRat w' u q) ∧ Below w.heap.size w w' := by
  obtain ⟨b1, p1, l1, K1, q1, j1, J1, rfl, hb1, n1, d1⟩ := ha
  obtain ⟨b2, p2, l2, K2, q2, j2, J2, rfl, hb2, n2, d2⟩ := hb
  have HB := Lib.hid (And.intro hx (And.intro hy hk))
  have HY := Lib.hid (rb_max hy (by omega))
  have HQ := Lib.hid (show x + -y = q by rw [← Rat.sub_eq_add_neg]; exact hq)
  clear hx hy hk hq
  have S := (((St.start w).alloc 34 [.bool b1, .slice p1 l1 K1, .slice q1 j1 J1] (w.heap.size)).alloc 34 [.bool b2, .slice p2 l2 K2, .slice q2 j2 J2] (w.heap.size + 1)).alloc 34 [.bool false, .slice none 0 0, .slice none 0 0] (w.heap.size + 1 + 1)
  try simp only [List.cons_append, List.nil_append] at S
  refine iv4 S.hold n1 d1 n2 d2 ?_; clear n1 d1 n2 d2; intro n1 d1 n2 d2
  obtain ⟨c0_0, c0_1, c0_2⟩ := S.c3 0 rfl; obtain ⟨c1_0, c1_1, c1_2⟩ := S.c3 1 rfl; obtain ⟨c2_0, c2_1, c2_2⟩ := S.c3 2 rfl
  go_enter Tryz.func19, Tryz.ntmps19
  go_upto_region 1 with fail
  clear c0_0 c0_1 c0_2 c1_0 c1_1 c1_2 c2_0 c2_1 c2_2
  generalize (((w.alloc (.cells #[.bool b1, .slice p1 l1 K1, .slice q1 j1 J1] 34)).alloc (.cells #[.bool b2, .slice p2 l2 K2, .slice q2 j2 J2] 34)).alloc (.cells #[.bool false, .slice none 0 0, .slice none 0 0] 34)) = w1 at S n1 d1 n2 d2 ⊢
  have HH := Hold.drew w1
  refine iv4 HH n1 d1 n2 d2 ?_; clear n1 d1 n2 d2; intro n1 d1 n2 d2
  replace S := S.drew
  refine wp_region_held_drew (S := fun W => W.cell? ⟨w.heap.size, 0, none⟩ = some (.bool b1) ∧ W.cell? ⟨w.heap.size, 1, none⟩ = some (.slice p1 l1 K1) ∧ W.cell? ⟨w.heap.size, 2, none⟩ = some (.slice q1 j1 J1) ∧ W.cell? ⟨w.heap.size + 1, 0, none⟩ = some (.bool b2) ∧ W.cell? ⟨w.heap.size + 1, 1, none⟩ = some (.slice p2 l2 K2) ∧ W.cell? ⟨w.heap.size + 1, 2, none⟩ = some (.slice q2 j2 J2)) (by kernel_rfl) (con3 (S.c3 0 rfl) (S.c3 1 rfl)) (fun hS => ?_)
  generalize w1.drew = w2 at S n1 d1 n2 d2 HH hS ⊢
  refine tk 0 hS ?_
  refine tk 1 hS ?_
  refine rd 2 fun KK hKK => ?_
  go_simp; clear hS
  refine (S.call (rneg_any ⟨b2, p2, l2, K2, q2, j2, J2, rfl, hb2, n2, d2⟩ HY.out (-y) rfl)).mono ?_
  clear S
  rintro e w3 ⟨⟨_, rfl, ba, pa, la, Ka, qa, ja, Ja, rfl, ha, na, da⟩, S, H⟩
  refine iv4 H n1 d1 n2 d2 ?_; clear n1 d1 n2 d2; intro n1 d1 n2 d2; replace HH := HH.trans H; clear H
  go_wp2_with fail
  refine ho hKK (con3 (S.c3 0 rfl) (S.c3 1 rfl)) fun hS => ?_
  clear hKK KK
  refine rd 3 fun KK hKK => ?_
  go_simp; clear hS
  refine (S.call (radd_any ⟨b1, p1, l1, K1, q1, j1, J1, rfl, hb1, n1, d1⟩ ⟨ba, pa, la, Ka, qa, ja, Ja, rfl, ha, na, da⟩ HB.out.1 (rb_neg HB.out.2.1) HB.out.2.2 q HQ.out)).mono ?_
  clear S
  rintro e w4 ⟨⟨_, rfl, b, p, l, K, q', j, J, rfl, hb, nn, dd⟩, S, H⟩
  refine iv6 H n1 d1 n2 d2 na da ?_; clear n1 d1 n2 d2 na da; intro n1 d1 n2 d2 na da; replace HH := HH.trans H; clear H
  go_wp2_with fail
  refine ho hKK (con3 (S.c3 0 rfl) (S.c3 1 rfl)) fun hS => ?_
  clear hKK KK
  refine tk 4 hS ?_
  refine tk 5 hS ?_
  refine rd 6 fun KK hKK => ?_
  obtain ⟨c0, c1, c2⟩ := S.c3 2 rfl; obtain ⟨f0, f1, f2⟩ := S.f3 2 rfl
  go_simp; clear hS c0 f0 c1 f1 c2 f2
  have HP := S.putq 2 (.bool b) (.slice p l K) (.slice q' j J) rfl rfl; have H := HP.2; replace S := HP.1; clear HP
  refine iv8 H n1 d1 n2 d2 na da nn dd ?_; clear n1 d1 n2 d2 na da nn dd; intro n1 d1 n2 d2 na da nn dd; replace HH := HH.trans H; clear H
  refine ho hKK (con3 (S.c3 0 rfl) (S.c3 1 rfl)) fun hS => ?_
  generalize (((w4.setCell ⟨w.heap.size + 1 + 1, 0, none⟩ (.bool b)).setCell ⟨w.heap.size + 1 + 1, 1, none⟩ (.slice p l K)).setCell ⟨w.heap.size + 1 + 1, 2, none⟩ (.slice q' j J)) = w5 at S n1 d1 n2 d2 na da nn dd HH hS ⊢
  clear hKK KK
  refine rd 7 fun KK hKK => ?_
  go_simp
  refine ho hKK hS fun hS => ?_
  clear hKK KK
  refine wpAnyH_done (by kernel_rfl) ?_ _
  clear hS HH; obtain ⟨c0_0, c0_1, c0_2⟩ := S.c3 0 rfl; obtain ⟨c1_0, c1_1, c1_2⟩ := S.c3 1 rfl; obtain ⟨c2_0, c2_1, c2_2⟩ := S.c3 2 rfl; go_wp2_with fail; obtain ⟨d2_0, d2_1, d2_2⟩ := S.c3 2 rfl
  exact bodyPost_ret (v := .tuple #[.agg #[.bool b, .slice p l K, .slice q' j J], .int .i64 0]) (by simp [results, Tryz.f19, go_sem, d2_0, d2_1, d2_2]) rfl (⟨⟨_, rfl, b, p, l, K, q', j, J, rfl, hb, nn, dd⟩, S.below⟩)
set_option maxRecDepth 100000 in
set_option maxHeartbeats 4000000 in
theorem vsub_any {va vb : Value} {xs ys : List Rat} {w : World} (ha : Rats w va xs) (hb : Rats w vb ys) (n : Nat) (hla : xs.length = n) (hlb : ys.length = n) (hn : n ≤ 1000000) {k1 k2 : Nat} (hx : ∀ q, q ∈ xs → RB q k1) (hy : ∀ q, q ∈ ys → RB q k2) (hk : k1 + k2 ≤ 511) :
    Calls Tryz.prog 35 #[va, vb] w fun e w' => (∃ v, e = .returned (.tuple #[v, .int .i64 0]) ∧ FreshR w w' v (List.zipWith (· - ·) xs ys)) ∧ Below w.heap.size w w' := by
  have HV := Lib.hid (vpair_any ha hb n hla hlb hn 19 (· - ·) (fun _ _ _ => by kernel_rfl) (fun W u v k x y h1 h2 hu hv => rsub_any hu hv (hx x (List.mem_of_getElem? h1)) (hy y (List.mem_of_getElem? h2)) hk _ rfl))
  clear ha hb hla hlb hn hx hy hk
  have S := St.start w
  go_enter Tryz.func35, Tryz.ntmps35
  go_wp2_with fail
  refine (S.call (HV.out)).mono ?_
  clear S
  rintro e w1 ⟨⟨v, rfl, hv⟩, S, H⟩
  clear H; go_wp2_with fail
  exact bodyPost_ret (v := .tuple #[v, .int .i64 0]) (by simp [results, Tryz.f35, go_sem]) rfl (⟨⟨_, rfl, hv⟩, S.below⟩)
set_option maxRecDepth 100000 in
set_option maxHeartbeats 4000000 in
theorem vscale1_any {va : Value} {x y : Rat} {w : World} {g : Nat} {b2 : Bool} {q1 q2 : Option Addr} {j1 J1 j2 J2 : Nat} (ha : IsRat w va x) (hg : g < w.heap.size) (e0 : w.cell? ⟨g, 0, none⟩ = some (.bool b2)) (e1 : w.cell? ⟨g, 1, none⟩ = some (.slice q1 j1 J1)) (e2 : w.cell? ⟨g, 2, none⟩ = some (.slice q2 j2 J2))
    (h2 : Hid (negB y.num = b2)) (n3 : IsNat w (.slice q1 j1 J1) y.num.natAbs) (n4 : IsNat w (.slice q2 j2 J2) y.den) {k1 k2 : Nat} (hx : RB x k1) (hy : RB y k2) (hk : k1 + k2 ≤ 511) :
    Calls Tryz.prog 91 #[va, .pointer (some ⟨g, 0, none⟩)] w fun e w' => (∃ r, e = .returned (.tuple #[r, .int .i64 0]) ∧ IsRat w' r (x * y)) ∧ Below w.heap.size w w' := by
  obtain ⟨b1, p1, l1, K1, p2, l2, K2, rfl, h1, n1, n2⟩ := ha
  have HK := Lib.hid (And.intro hx (And.intro hy hk))
  clear hx hy hk
  have S := ((St.start w).alloc 34 [.bool b1, .slice p1 l1 K1, .slice p2 l2 K2] (w.heap.size)).alloc 34 [.bool false, .slice none 0 0, .slice none 0 0] (w.heap.size + 1)
  try simp only [List.cons_append, List.nil_append] at S
  refine iv4 S.hold n1 n2 n3 n4 ?_; clear n1 n2 n3 n4; intro n1 n2 n3 n4
  obtain ⟨c0_0, c0_1, c0_2⟩ := S.c3 0 rfl; obtain ⟨c1_0, c1_1, c1_2⟩ := S.c3 1 rfl
  go_enter Tryz.func91, Tryz.ntmps91
  replace e0 := (S.below.cell (p := ⟨g, 0, none⟩) hg).trans e0
  replace e1 := (S.below.cell (p := ⟨g, 1, none⟩) hg).trans e1
  replace e2 := (S.below.cell (p := ⟨g, 2, none⟩) hg).trans e2
  go_wp2_with fail; clear c0_0 c0_1 c0_2 c1_0 c1_1 c1_2
  refine (S.call (rmul_any ⟨b1, p1, l1, K1, p2, l2, K2, rfl, h1, n1, n2⟩ ⟨b2, q1, j1, J1, q2, j2, J2, rfl, h2, n3, n4⟩ HK.out.1 HK.out.2.1 HK.out.2.2 _ rfl)).mono ?_
  clear S
  rintro e w1 ⟨⟨_, rfl, b3, p3, l3, K3, p4, l4, K4, rfl, h3, n5, n6⟩, S, H⟩
  refine iv4 H n1 n2 n3 n4 ?_; clear n1 n2 n3 n4; intro n1 n2 n3 n4
  clear H; obtain ⟨c0_0, c0_1, c0_2⟩ := S.c3 0 rfl; obtain ⟨c1_0, c1_1, c1_2⟩ := S.c3 1 rfl
  obtain ⟨f1_0, f1_1, f1_2⟩ := S.f3 1 rfl
  have HP := S.putq 1 (.bool b3) (.slice p3 l3 K3) (.slice p4 l4 K4) rfl rfl; have H := HP.2; replace S := HP.1; clear HP
  refine iv6 H n1 n2 n3 n4 n5 n6 ?_; clear n1 n2 n3 n4 n5 n6; intro n1 n2 n3 n4 n5 n6
  clear H; go_wp2_with fail; obtain ⟨d1_0, d1_1, d1_2⟩ := S.c3 1 rfl
  exact bodyPost_ret (v := .tuple #[.agg #[.bool b3, .slice p3 l3 K3, .slice p4 l4 K4], .int .i64 0]) (by simp [results, Tryz.f91, go_sem, d1_0, d1_1, d1_2]) rfl (⟨⟨_, rfl, b3, p3, l3, K3, p4, l4, K4, rfl, h3, n5, n6⟩, S.below⟩)
set_option maxRecDepth 100000 in
set_option maxHeartbeats 4000000 in
theorem vscale_any {va vb : Value} {xs : List Rat} {y : Rat} {w : World} (ha : Rats w va xs) (hb : IsRat w vb y) (n : Nat) (hla : xs.length = n) (hn : n ≤ 1000000) {k1 k2 : Nat} (hx : ∀ q, q ∈ xs → RB q k1) (hy : RB y k2) (hk : k1 + k2 ≤ 511) :
    Calls Tryz.prog 39 #[va, vb] w fun e w' => (∃ v, e = .returned (.tuple #[v, .int .i64 0]) ∧ FreshR w w' v (xs.map (· * y))) ∧ Below w.heap.size w w' := by
  obtain ⟨b2, q1, j1, J1, q2, j2, J2, rfl, h2, n3, n4⟩ := hb
  have HK := Lib.hid (And.intro ha (And.intro hla (And.intro hn (And.intro hx (And.intro hy hk)))))
  clear ha hla hn hx hy hk
  have S := (St.start w).alloc 34 [.bool b2, .slice q1 j1 J1, .slice q2 j2 J2] (w.heap.size)
  try simp only [List.nil_append] at S
  replace n3 := n3.hold S.hold; replace n4 := n4.hold S.hold
  obtain ⟨c0_0, c0_1, c0_2⟩ := S.c3 0 rfl
  go_enter Tryz.func39, Tryz.ntmps39
  have HR := Lib.hid (HK.out.1.to S.below)
  go_wp2_with fail; clear c0_0 c0_1 c0_2
  refine (S.call (vplace_any HR.out n HK.out.2.1 HK.out.2.2.1 91 (.pointer (some ⟨w.heap.size, 0, none⟩)) (· * y) (fun _ _ => by kernel_rfl) (fun W u k x hB hx hu => vscale1_any hu (Nat.lt_of_lt_of_le (S.lt 0 rfl) hB.size) ((hB.cell (p := ⟨w.heap.size, 0, none⟩) (S.lt 0 rfl)).trans (S.c 0 0 rfl rfl)) ((hB.cell (p := ⟨w.heap.size, 1, none⟩) (S.lt 0 rfl)).trans (S.c 0 1 rfl rfl)) ((hB.cell (p := ⟨w.heap.size, 2, none⟩) (S.lt 0 rfl)).trans (S.c 0 2 rfl rfl)) h2 (n3.below hB (Nat.le_refl _)) (n4.below hB (Nat.le_refl _)) (HK.out.2.2.2.1 x (List.mem_of_getElem? hx)) HK.out.2.2.2.2.1 HK.out.2.2.2.2.2))).mono ?_
  clear S
  rintro e w1 ⟨⟨v, rfl, hv⟩, S, H⟩
  replace n3 := n3.hold H; replace n4 := n4.hold H
  clear H; obtain ⟨c0_0, c0_1, c0_2⟩ := S.c3 0 rfl; go_wp2_with fail
  exact bodyPost_ret (v := .tuple #[v, .int .i64 0]) (by simp [results, Tryz.f39, go_sem]) rfl (⟨⟨_, rfl, hv.from (by simp)⟩, S.below⟩)
def normS (xs : List (Rat × Rat)) : Rat := xs.foldl (fun m x => max2 m (max2 x.1.abs x.2.abs)) 0
theorem normS_snoc (xs : List (Rat × Rat)) (x : Rat × Rat) : normS (xs ++ [x]) = max2 (normS xs) (max2 x.1.abs x.2.abs) := by simp [normS]
theorem take_snocN {xs : List (Rat × Rat)} {k : Nat} {x : Rat × Rat} (h : xs[k]? = some x) : xs.take (k + 1) = xs.take k ++ [x] := by
  rw [List.take_add_one, h]
  rfl
set_option maxRecDepth 100000 in
set_option maxHeartbeats 4000000 in
theorem vnorm_any {va : Value} {xs : List (Rat × Rat)} {w : World} {L H : Nat} (ha : Spans w va xs L H) (n : Nat) (hla : xs.length = n) (hn : n ≤ 1000000) (hk : H + L ≤ 16384) :
    Calls Tryz.prog 48 #[va] w fun e w' => (∃ u, e = .returned u ∧ IsD w' u (normS xs) L H) ∧ Below w.heap.size w w' := by
  obtain ⟨g, off, c, rfl, hg⟩ := ha.form
  rw [hla] at ha ⊢
  have HI := Lib.hid (And.intro ha (And.intro hg (And.intro hk hla)))
  clear ha hg hk hla
  have S := ((St.start w).alloc 27 [.bool false, .slice none 0 0, .int .i64 0] (w.heap.size)).alloc 27 [.bool false, .slice none 0 0, .int .i64 0] (w.heap.size + 1)
  try simp only [List.cons_append, List.nil_append] at S
  obtain ⟨c0_0, c0_1, c0_2⟩ := S.c3 0 rfl; obtain ⟨c1_0, c1_1, c1_2⟩ := S.c3 1 rfl
  go_enter Tryz.func48, Tryz.ntmps48
  clear c0_0 c0_1 c0_2 c1_0 c1_1 c1_2; go_wp2_with fail
  go_loopw [8] (fun si wr => ∃ k : Nat, k ≤ n ∧ si = .int .i64 k ∧ ∃ b9 p9 l9 K9 m9 e9, Hid (negB m9 = b9) ∧ IsNat wr (.slice p9 l9 K9) m9.natAbs ∧ Hid (DyF m9 e9 (normS (xs.take k)) L H) ∧ St w wr [(w.heap.size, 27, [.bool false, .slice none 0 0, .int .i64 0]), (w.heap.size + 1, 27, [.bool b9, .slice p9 l9 K9, .int .i64 e9])]) (fun si _ => n - (intOf si).toNat)
  case atStart => exact ⟨0, by omega, rfl, false, none, 0, 0, 0, 0, rfl, IsNat.zero _, DyF.zero _ _, S⟩
  case round =>
    clear S
    obtain ⟨k, hk, rfl, b9, p9, l9, K9, m9, e9, h9, n9, d9, S⟩ := hrel
    by_cases hlt : k < n
    · obtain ⟨q, b1, p1, l1, K1, m1, e1, b2, p2, l2, K2, m2, e2, hq, a0, a1, a2, a3, a4, a5, h1, n1, d1, h2, n2, d2⟩ := HI.out.1.get hlt
      replace a0 := (S.below.cell (p := ⟨g, off + k * 6, none⟩) HI.out.2.1).trans a0
      replace a1 := (S.below.cell (p := ⟨g, off + k * 6 + 1, none⟩) HI.out.2.1).trans a1
      replace a2 := (S.below.cell (p := ⟨g, off + k * 6 + 2, none⟩) HI.out.2.1).trans a2
      replace a3 := (S.below.cell (p := ⟨g, off + k * 6 + 3, none⟩) HI.out.2.1).trans a3
      replace a4 := (S.below.cell (p := ⟨g, off + k * 6 + 4, none⟩) HI.out.2.1).trans a4
      replace a5 := (S.below.cell (p := ⟨g, off + k * 6 + 5, none⟩) HI.out.2.1).trans a5
      replace n1 := n1.below S.below (Nat.le_refl _); replace n2 := n2.below S.below (Nat.le_refl _)
      have hki : (k : Int) < ((n : Nat) : Int) := by omega
      have HQ := Lib.hid (And.intro hlt hq)
      clear hlt hq hk
      go_upto_region 5 with fail
      clear a0 a1 a2 a3 a4 a5
      have H := S.hnew 29 [.bool b1, .slice p1 l1 K1, .int .i64 e1, .bool b2, .slice p2 l2 K2, .int .i64 e2]
      replace S := S.al 29 [.bool b1, .slice p1 l1 K1, .int .i64 e1, .bool b2, .slice p2 l2 K2, .int .i64 e2] (wr.heap.size)
      refine iv3 H n9 n1 n2 ?_; clear n9 n1 n2; intro n9 n1 n2
      clear H
      generalize wr.heap.size = bx at S ⊢
      replace n9 := n9.hold (Hold.drew _); replace n1 := n1.hold (Hold.drew _); replace n2 := n2.hold (Hold.drew _)
      replace S := S.drew
      refine wp_region_held_drew (S := fun W => W.cell? ⟨bx, 0, none⟩ = some (.bool b1) ∧ W.cell? ⟨bx, 1, none⟩ = some (.slice p1 l1 K1) ∧ W.cell? ⟨bx, 2, none⟩ = some (.int .i64 e1) ∧ W.cell? ⟨bx, 3, none⟩ = some (.bool b2) ∧ W.cell? ⟨bx, 4, none⟩ = some (.slice p2 l2 K2) ∧ W.cell? ⟨bx, 5, none⟩ = some (.int .i64 e2)) (by kernel_rfl) (S.c6 2 rfl) (fun hS => ?_)
      refine tk 1 hS ?_
      refine wpAnyH_ready (rs := [0, 2]) (by kernel_rfl) (by simp) (AllReadyH.cons (opOf rfl) (fun KK hKK => ?ld) (AllReadyH.cons (opOf rfl) (fun KK hKK => ?sz) AllReadyH.nil))
      case ld =>
        obtain ⟨c1_0, c1_1, c1_2⟩ := S.c3 1 rfl; go_simp; clear c1_0 c1_1 c1_2
        refine ho hKK (S.c6 2 rfl) fun hS => ?_
        clear hKK KK
        refine rd 2 fun KK hKK => ?_
        go_simp; clear hS
        refine (S.call (ssize_any ⟨b1, p1, l1, K1, m1, e1, b2, p2, l2, K2, m2, e2, rfl, h1, n1, d1, h2, n2, d2⟩ HI.out.2.2.1)).mono ?_
        clear S
        rintro e w40 ⟨⟨_, rfl, b7, p7, l7, K7, m7, e7, rfl, h7, n7, d7⟩, S, H⟩
        replace n9 := n9.hold H; clear H n1 n2 h1 h2 d1 d2; go_wp2_with fail
        refine ho hKK (S.c6 2 rfl) fun hS => ?_
        clear hKK KK
        refine rd 3 fun KK hKK => ?_
        go_simp; clear hS
        refine (S.call (dmax_any ⟨b9, p9, l9, K9, m9, e9, rfl, h9, n9, d9⟩ ⟨b7, p7, l7, K7, m7, e7, rfl, h7, n7, d7⟩ HI.out.2.2.1)).mono ?_
        clear S
        rintro e w50 ⟨⟨_, rfl, b8, p8, l8, K8, m8, e8, rfl, h8, n8, d8⟩, S, H⟩
        clear H n9 n7 h9 h7 d9 d7; go_wp2_with fail
        refine ho hKK (S.c6 2 rfl) fun hS => ?_
        clear hKK KK
        refine rd 4 fun KK hKK => ?_
        obtain ⟨c1_0, c1_1, c1_2⟩ := S.c3 1 rfl
        obtain ⟨f1_0, f1_1, f1_2⟩ := S.f3 1 rfl
        have HP := S.put3 1 (.bool b8) (.slice p8 l8 K8) (.int .i64 e8) rfl rfl
        go_simp
        have H := HP.2; replace S := HP.1; clear HP c1_0 c1_1 c1_2 f1_0 f1_1 f1_2 hS
        replace n8 := n8.hold32 H; clear H
        refine ho hKK (S.c6 2 rfl) fun hS => ?_
        clear hKK KK
        refine wpAnyH_done (by kernel_rfl) ?_ _
        clear hS
        replace S := S.take 2 rfl
        go_wp2_with fail
        go_roundw
        case rel => exact ⟨k + 1, HQ.out.1, by go_num, b8, p8, l8, K8, m8, e8, h8, n8, by rw [take_snocN HQ.out.2, normS_snoc]; exact d8, S⟩
        case measure => have := HQ.out.1; simp [intOf]; omega
      case sz =>
        go_simp; clear hS
        refine (S.call (ssize_any ⟨b1, p1, l1, K1, m1, e1, b2, p2, l2, K2, m2, e2, rfl, h1, n1, d1, h2, n2, d2⟩ HI.out.2.2.1)).mono ?_
        clear S
        rintro e w40 ⟨⟨_, rfl, b7, p7, l7, K7, m7, e7, rfl, h7, n7, d7⟩, S, H⟩
        replace n9 := n9.hold H; clear H n1 n2 h1 h2 d1 d2; go_wp2_with fail
        refine ho hKK (S.c6 2 rfl) fun hS => ?_
        clear hKK KK
        refine rd 0 fun KK hKK => ?_
        obtain ⟨c1_0, c1_1, c1_2⟩ := S.c3 1 rfl; go_simp; clear c1_0 c1_1 c1_2
        refine ho hKK (S.c6 2 rfl) fun hS => ?_
        clear hKK KK
        refine rd 3 fun KK hKK => ?_
        go_simp; clear hS
        refine (S.call (dmax_any ⟨b9, p9, l9, K9, m9, e9, rfl, h9, n9, d9⟩ ⟨b7, p7, l7, K7, m7, e7, rfl, h7, n7, d7⟩ HI.out.2.2.1)).mono ?_
        clear S
        rintro e w50 ⟨⟨_, rfl, b8, p8, l8, K8, m8, e8, rfl, h8, n8, d8⟩, S, H⟩
        clear H n9 n7 h9 h7 d9 d7; go_wp2_with fail
        refine ho hKK (S.c6 2 rfl) fun hS => ?_
        clear hKK KK
        refine rd 4 fun KK hKK => ?_
        obtain ⟨c1_0, c1_1, c1_2⟩ := S.c3 1 rfl
        obtain ⟨f1_0, f1_1, f1_2⟩ := S.f3 1 rfl
        have HP := S.put3 1 (.bool b8) (.slice p8 l8 K8) (.int .i64 e8) rfl rfl
        go_simp
        have H := HP.2; replace S := HP.1; clear HP c1_0 c1_1 c1_2 f1_0 f1_1 f1_2 hS
        replace n8 := n8.hold32 H; clear H
        refine ho hKK (S.c6 2 rfl) fun hS => ?_
        clear hKK KK
        refine wpAnyH_done (by kernel_rfl) ?_ _
        clear hS
        replace S := S.take 2 rfl
        go_wp2_with fail
        go_roundw
        case rel => exact ⟨k + 1, HQ.out.1, by go_num, b8, p8, l8, K8, m8, e8, h8, n8, by rw [take_snocN HQ.out.2, normS_snoc]; exact d8, S⟩
        case measure => have := HQ.out.1; simp [intOf]; omega
    · have hki : ¬ (k : Int) < ((n : Nat) : Int) := by omega
      have hkn : k = n := by omega
      subst hkn
      rw [List.take_of_length_le (by have := HI.out.2.2.2; omega)] at d9
      clear hlt hk; obtain ⟨c0_0, c0_1, c0_2⟩ := S.c3 0 rfl; obtain ⟨c1_0, c1_1, c1_2⟩ := S.c3 1 rfl
      obtain ⟨f0_0, f0_1, f0_2⟩ := S.f3 0 rfl
      have HP := S.put3 0 (.bool b9) (.slice p9 l9 K9) (.int .i64 e9) rfl rfl; have H := HP.2; replace S := HP.1; clear HP
      replace n9 := n9.hold32 H; clear H; go_wp2_with fail; clear c0_0 c0_1 c0_2 c1_0 c1_1 c1_2 f0_0 f0_1 f0_2; go_wp2_with fail; obtain ⟨d0_0, d0_1, d0_2⟩ := S.c3 0 rfl
      exact bodyPost_ret (v := .agg #[.bool b9, .slice p9 l9 K9, .int .i64 e9]) (by simp [results, Tryz.f48, go_sem, d0_0, d0_1, d0_2]) rfl (⟨⟨_, rfl, b9, p9, l9, K9, m9, e9, rfl, h9, n9, d9⟩, S.below⟩)
set_option maxRecDepth 100000 in
set_option maxHeartbeats 4000000 in
theorem rof_any (n d : Int) (w : World) (hn0 : -9223372036854775808 ≤ n) (hn1 : n ≤ 9223372036854775807) (hd0 : -9223372036854775808 ≤ d) (hd1 : d ≤ 9223372036854775807) (h0 : d ≠ 0) (q : Rat) (hq : q = Rat.divInt n d) :
    Calls Tryz.prog 40 #[.int .i64 n, .int .i64 d] w fun e w' => (∃ u, e = .returned u ∧ IsRat w' u q) ∧ Below w.heap.size w w' := by
  have HD := Lib.hid (And.intro hn0 (And.intro hn1 (And.intro hd0 (And.intro hd1 (And.intro h0 hq)))))
  have HB := Lib.hid (And.intro (show n.natAbs < maxN from lt_maxN (by omega)) (show d.natAbs < maxN from lt_maxN (by omega)))
  clear hn0 hn1 hd0 hd1 h0 hq
  have S := (St.start w).alloc 34 [.bool false, .slice none 0 0, .slice none 0 0] (w.heap.size)
  try simp only [List.nil_append] at S
  obtain ⟨c0_0, c0_1, c0_2⟩ := S.c3 0 rfl
  go_enter Tryz.func40, Tryz.ntmps40
  go_wp2_with fail; clear c0_0 c0_1 c0_2
  refine (S.call (wof_any n _ HD.out.1 HD.out.2.1)).mono ?_
  clear S
  rintro e w1 ⟨⟨_, rfl, pn, ln, Kn, rfl, nn⟩, S, H⟩
  clear H; obtain ⟨c0_0, c0_1, c0_2⟩ := S.c3 0 rfl; go_wp2_with fail; clear c0_0 c0_1 c0_2
  refine (S.call (wof_any d _ HD.out.2.2.1 HD.out.2.2.2.1)).mono ?_
  clear S
  rintro e w2 ⟨⟨_, rfl, pd, ld, Kd, rfl, nd⟩, S, H⟩
  replace nn := nn.hold H; clear H; obtain ⟨c0_0, c0_1, c0_2⟩ := S.c3 0 rfl; go_wp2_with fail; clear c0_0 c0_1 c0_2
  refine (S.call (rmake_any ⟨_, _, _, rfl, nn⟩ ⟨_, _, _, rfl, nd⟩ HB.out.1 HB.out.2 HD.out.2.2.2.2.1 q HD.out.2.2.2.2.2)).mono ?_
  clear S
  rintro e w3 ⟨⟨_, rfl, b, p, l, K, q', j, J, rfl, hb, n1, d1⟩, S, H⟩
  replace nn := nn.hold H; replace nd := nd.hold H
  clear H; obtain ⟨c0_0, c0_1, c0_2⟩ := S.c3 0 rfl
  have H := S.hnew 34 [.bool b, .slice p l K, .slice q' j J]
  replace S := S.al 34 [.bool b, .slice p l K, .slice q' j J] (w3.heap.size)
  refine iv4 H nn nd n1 d1 ?_; clear nn nd n1 d1; intro nn nd n1 d1
  clear H; clear c0_0 c0_1 c0_2; obtain ⟨c0_0, c0_1, c0_2⟩ := S.c3 0 rfl; obtain ⟨c1_0, c1_1, c1_2⟩ := S.c3 1 rfl
  obtain ⟨f0_0, f0_1, f0_2⟩ := S.f3 0 rfl
  have HP := S.putq 0 (.bool b) (.slice p l K) (.slice q' j J) rfl rfl; have H := HP.2; replace S := HP.1; clear HP
  refine iv4 H nn nd n1 d1 ?_; clear nn nd n1 d1; intro nn nd n1 d1
  clear H; go_wp2_with fail; obtain ⟨d0_0, d0_1, d0_2⟩ := S.c3 0 rfl
  exact bodyPost_ret (v := .agg #[.bool b, .slice p l K, .slice q' j J]) (by simp [results, Tryz.f40, go_sem, d0_0, d0_1, d0_2]) rfl (⟨⟨_, rfl, b, p, l, K, q', j, J, rfl, hb, n1, d1⟩, S.below⟩)
theorem St.putIn {w W : World} {L : List (Nat × TypeId × List Value)} (S : St w W L) (i j : Nat) (v0 v1 v2 : Value) {b : Nat} {t : TypeId} {vs : List Value} {x0 x1 x2 : Value} (hi : L[i]? = some (b, t, vs)) (e0 : vs[j]? = some x0) (e1 : vs[j + 1]? = some x1) (e2 : vs[j + 2]? = some x2) (hn : ([x0, x1, x2].all noNum) = true) :
    St w (((W.setCell ⟨b, j, none⟩ v0).setCell ⟨b, j + 1, none⟩ v1).setCell ⟨b, j + 2, none⟩ v2) (L.set i (b, t, ((vs.set j v0).set (j + 1) v1).set (j + 2) v2)) ∧
    Hold W (((W.setCell ⟨b, j, none⟩ v0).setCell ⟨b, j + 1, none⟩ v1).setCell ⟨b, j + 2, none⟩ v2) := by
  simp only [List.all_cons, List.all_nil, Bool.and_true, Bool.and_eq_true] at hn
  have hl : i < L.length := (List.getElem?_eq_some_iff.1 hi).1
  have S1 := S.set i j v0 hi
  have H1 := Hold.set (S.c i j hi e0) (noNum_is hn.1) v0
  have h1 : (setL L i j v0)[i]? = some (b, t, vs.set j v0) := setL_at hi
  have g1 : (vs.set j v0)[j + 1]? = some x1 := by rw [List.getElem?_set_ne (by omega)]; exact e1
  have S2 := S1.set i (j + 1) v1 h1
  have H2 := Hold.set (S1.c i (j + 1) h1 g1) (noNum_is hn.2.1) v1
  have h2 : (setL (setL L i j v0) i (j + 1) v1)[i]? = some (b, t, (vs.set j v0).set (j + 1) v1) := setL_at h1
  have g2 : ((vs.set j v0).set (j + 1) v1)[j + 2]? = some x2 := by rw [List.getElem?_set_ne (by omega), List.getElem?_set_ne (by omega)]; exact e2
  have S3 := S2.set i (j + 2) v2 h2
  have H3 := Hold.set (S2.c i (j + 2) h2 g2) (noNum_is hn.2.2) v2
  have e3 : setL (setL (setL L i j v0) i (j + 1) v1) i (j + 2) v2 = L.set i (b, t, ((vs.set j v0).set (j + 1) v1).set (j + 2) v2) := by
    rw [setL_set h2, setL_set h1, setL_set hi, List.set_set, List.set_set]
  rw [e3] at S3
  exact ⟨S3, (H1.trans H2).trans H3⟩
theorem RL.set {w : World} {v0 v1 v2 : Value} {q : Rat} (hq : RatV w v0 v1 v2 q) : ∀ {vs : List Value} {qs : List Rat} {j : Nat}, RL w vs qs → j < qs.length → RL w (((vs.set (j * 3) v0).set (j * 3 + 1) v1).set (j * 3 + 2) v2) (qs.set j q)
  | [], [], _, _, h => by simp at h
  | _ :: _ :: _ :: vs, _ :: qs, 0, ⟨_, h2⟩, _ => ⟨hq, h2⟩
  | u0 :: u1 :: u2 :: vs, p :: qs, j + 1, ⟨h1, h2⟩, h => by
    have ih := RL.set hq (j := j) h2 (by simpa using h)
    rw [show (j + 1) * 3 + 2 = j * 3 + 2 + 1 + 1 + 1 by omega, show (j + 1) * 3 + 1 = j * 3 + 1 + 1 + 1 + 1 by omega, show (j + 1) * 3 = j * 3 + 1 + 1 + 1 by omega]
    exact ⟨h1, ih⟩
theorem RatV.plain {w : World} {v0 v1 v2 : Value} {q : Rat} : RatV w v0 v1 v2 q → ([v0, v1, v2].all Go.Proofs.YtcfgefbkeeedgaaGreatDoor.noNum) = true
  | ⟨_, _, _, _, _, _, _, e0, e1, e2, _⟩ => by rw [e0, e1, e2]; rfl
def unitL (n : Nat) (at' : Int) : List Rat := (List.range n).map fun i : Nat => if (i : Int) = at' then 1 else 0
theorem unitL_none {n : Nat} {z : Int} (h : z < 0 ∨ (n : Int) ≤ z) : unitL n z = List.replicate n 0 := by
  apply List.ext_getElem?
  intro j
  unfold unitL
  by_cases hj : j < n
  · rw [List.getElem?_map, List.getElem?_range hj, List.getElem?_replicate, if_pos hj]
    simp
    omega
  · rw [List.getElem?_eq_none (by simp; omega), List.getElem?_eq_none (by simp; omega)]
theorem unitL_at {n k : Nat} (h : k < n) : unitL n (k : Int) = (List.replicate n 0).set k 1 := by
  apply List.ext_getElem?
  intro j
  unfold unitL
  by_cases hj : j < n
  · rw [List.getElem?_map, List.getElem?_range hj, List.getElem?_set]
    by_cases e : k = j
    · subst e
      simp [h]
    · rw [if_neg e, List.getElem?_replicate, if_pos hj]
      simp
      omega
  · rw [List.getElem?_eq_none (by simp; omega), List.getElem?_eq_none (by simp; omega)]
set_option maxRecDepth 100000 in
set_option maxHeartbeats 4000000 in
theorem vunit_any (n : Nat) (hn : n ≤ 16) (z : Int) (w : World) :
    Calls Tryz.prog 52 #[.int .i64 n, .int .i64 z] w fun e w' => (∃ v, e = .returned v ∧ FreshR w w' v (unitL n z)) ∧ Below w.heap.size w w' := by
  have HN := Lib.hid hn
  by_cases hz0 : z < 0
  · have hz1 : ¬ z ≥ 0 := by omega
    rw [unitL_none (.inl hz0)]
    clear hn
    have S := St.start w
    go_enter Tryz.func52, Tryz.ntmps52
    go_wp2_with fail
    refine (S.call (vzero_any n HN.out _)).mono ?_
    clear S
    rintro e w1 ⟨⟨v, rfl, hv⟩, S, H⟩
    clear H; go_wp2_with fail
    exact bodyPost_ret (v := v) (by simp [results, Tryz.f52, go_sem]) rfl (⟨⟨_, rfl, hv⟩, S.below⟩)
  · obtain ⟨k, rfl⟩ : ∃ k : Nat, z = (k : Int) := ⟨z.toNat, by omega⟩
    by_cases hkn : k < n
    · rw [unitL_at hkn]
      have HK := Lib.hid hkn
      have hki : ((k : Nat) : Int) < ((n : Nat) : Int) := by omega
      clear hn hkn
      have S := St.start w
      go_enter Tryz.func52, Tryz.ntmps52
      go_wp2_with fail
      refine (S.call (vzero_any n HN.out _)).mono ?_
      rintro e w1 ⟨⟨v, rfl, g, vs, rfl, hg, hh, hr⟩, S', H⟩
      have hB := S'.below
      clear S'
      replace S := S.adopt hB hg hh
      simp only [List.nil_append] at S
      clear H hh
      rw [List.length_replicate]
      go_wp2_with fail
      refine (S.call (rof_any 1 1 _ (by decide) (by decide) (by decide) (by decide) (by decide) 1 (by decide +kernel))).mono ?_
      clear S
      rintro e w2 ⟨⟨_, rfl, b, p1, l1, K1, p2, l2, K2, rfl, hs, n1, n2⟩, S, H⟩
      replace hr := hr.hold H; clear H
      obtain ⟨x0, x1, x2, e0, e1, e2, hx⟩ := hr.get (j := k) (q := 0) (by rw [List.getElem?_replicate, if_pos HK.out])
      have f0 := S.f 0 (k * 3) rfl
      have f1 := S.f 0 (k * 3 + 1) rfl
      have f2 := S.f 0 (k * 3 + 2) rfl
      have g0 := S.c 0 (k * 3) rfl e0
      have g1 := S.c 0 (k * 3 + 1) rfl e1
      have g2 := S.c 0 (k * 3 + 2) rfl e2
      obtain ⟨S2, H⟩ := S.putIn 0 (k * 3) (.bool b) (.slice p1 l1 K1) (.slice p2 l2 K2) rfl e0 e1 e2 hx.plain
      have hr2 := (hr.hold H).set (j := k) (q := 1) ⟨b, p1, l1, K1, p2, l2, K2, rfl, rfl, rfl, hs, n1.hold H, n2.hold H⟩ (by rw [List.length_replicate]; exact HK.out)
      have HR := Lib.hid (And.intro hg hr2)
      clear hr e0 e1 e2 hx hs n1 n2 H hr2 S; go_wp2_with fail
      exact bodyPost_ret (v := .slice (some ⟨g, 0, none⟩) n n) (by simp [results, Tryz.f52, go_sem]) rfl (⟨⟨_, rfl, g, _, by rw [List.length_set, List.length_replicate], HR.out.1, (S2.locs.get 0 rfl).2, HR.out.2⟩, S2.below⟩)
    · rw [unitL_none (.inr (by omega))]
      have hki : ¬ ((k : Nat) : Int) < ((n : Nat) : Int) := by omega
      clear hn hkn
      have S := St.start w
      go_enter Tryz.func52, Tryz.ntmps52
      go_wp2_with fail
      refine (S.call (vzero_any n HN.out _)).mono ?_
      clear S
      rintro e w1 ⟨⟨v, rfl, g, vs, rfl, hg, hh, hr⟩, S, H⟩
      clear H
      have HR := Lib.hid (And.intro hg (And.intro hh hr))
      clear hg hh hr
      rw [List.length_replicate]
      go_wp2_with fail
      exact bodyPost_ret (v := .slice (some ⟨g, 0, none⟩) n n) (by simp [results, Tryz.f52, go_sem]) rfl (⟨⟨_, rfl, g, vs, by rw [List.length_replicate], HR.out.1, HR.out.2.1, HR.out.2.2⟩, S.below⟩)
theorem equal_nat3 {va vb : Value} {m n : Nat} {w : World} (ha : IsNat w va m) (hb : IsNat w vb n) (hm : m < maxN) {b : Bool} (h : decide (m = n) = b) :
    Calls Tryz.prog 135 #[va, vb] w fun e w' => e = .returned (.bool b) ∧ Below w.heap.size w w' := by
  obtain ⟨ds, ⟨p1, K1, rfl, at1⟩, c1, v1⟩ := ha
  obtain ⟨es, ⟨p2, K2, rfl, at2⟩, c2, v2⟩ := hb
  have hl : ds.length ≤ 512 := c1.len_max.2 (by omega)
  have h1 := equal_nat p1 p2 K1 K2 ds es w at1 at2 (by omega)
  have e : decide (ds = es) = b := by
    rw [← h, Bool.eq_iff_iff, decide_eq_true_iff, decide_eq_true_iff]
    exact ⟨fun e => by rw [← v1, ← v2, e], fun e => Can.uniq (by decide) c1 c2 (by rw [v1, v2, e])⟩
  rw [e] at h1
  exact h1
theorem rat_same {x y : Rat} (h1 : negB x.num = negB y.num) (h2 : x.num.natAbs = y.num.natAbs) (h3 : x.den = y.den) : x = y := by
  apply Rat.ext
  · have : (x.num < 0) ↔ (y.num < 0) := by simpa [negB] using h1
    omega
  · exact h3
set_option maxRecDepth 100000 in
set_option maxHeartbeats 4000000 in
theorem rsame_any {va vb : Value} {x y : Rat} {w : World} (ha : IsRat w va x) (hb : IsRat w vb y) (hx : x.num.natAbs < maxN ∧ x.den < maxN) {r : Bool} (hr : decide (x = y) = r) :
    Calls Tryz.prog 88 #[va, vb] w fun e w' => e = .returned (.bool r) ∧ Below w.heap.size w w' := by
  obtain ⟨b1, p1, l1, K1, q1, j1, J1, rfl, h1, n1, d1⟩ := ha
  obtain ⟨b2, p2, l2, K2, q2, j2, J2, rfl, h2, n2, d2⟩ := hb
  have HX := Lib.hid hx
  clear hx
  by_cases hbb : b2 = b1
  · subst hbb
    by_cases hn : x.num.natAbs = y.num.natAbs
    · have hn' := Lib.hid (decide_eq_true hn)
      by_cases hd : x.den = y.den
      · have hr' : r = true := by rw [← hr]; exact decide_eq_true (rat_same (h1.out.trans h2.out.symm) hn hd)
        have hd' := Lib.hid (decide_eq_true hd)
        clear hr hn hd
        subst hr'
        have S := ((St.start w).alloc 34 [.bool b2, .slice p1 l1 K1, .slice q1 j1 J1] (w.heap.size)).alloc 34 [.bool b2, .slice p2 l2 K2, .slice q2 j2 J2] (w.heap.size + 1)
        try simp only [List.cons_append, List.nil_append] at S
        refine iv4 S.hold n1 d1 n2 d2 ?_; clear n1 d1 n2 d2; intro n1 d1 n2 d2
        obtain ⟨c0_0, c0_1, c0_2⟩ := S.c3 0 rfl; obtain ⟨c1_0, c1_1, c1_2⟩ := S.c3 1 rfl
        go_enter Tryz.func88, Tryz.ntmps88
        go_wp2_with fail; clear c0_0 c0_1 c0_2 c1_0 c1_1 c1_2
        refine (S.call (equal_nat3 n1 n2 HX.out.1 hn'.out)).mono ?_
        clear S
        rintro e w1 ⟨rfl, S, H⟩
        refine iv4 H n1 d1 n2 d2 ?_; clear n1 d1 n2 d2; intro n1 d1 n2 d2
        clear H; obtain ⟨c0_0, c0_1, c0_2⟩ := S.c3 0 rfl; obtain ⟨c1_0, c1_1, c1_2⟩ := S.c3 1 rfl; go_wp2_with fail; clear c0_0 c0_1 c0_2 c1_0 c1_1 c1_2
        refine (S.call (equal_nat3 d1 d2 HX.out.2 hd'.out)).mono ?_
        clear S
        rintro e w2 ⟨rfl, S, H⟩
        refine iv4 H n1 d1 n2 d2 ?_; clear n1 d1 n2 d2; intro n1 d1 n2 d2
        clear H; obtain ⟨c0_0, c0_1, c0_2⟩ := S.c3 0 rfl; obtain ⟨c1_0, c1_1, c1_2⟩ := S.c3 1 rfl; go_wp2_with fail
        exact bodyPost_ret (v := .bool true) (by simp [results, Tryz.f88, go_sem]) rfl (⟨rfl, S.below⟩)
      · have hr' : r = false := by rw [← hr]; exact decide_eq_false (fun e => hd (by rw [e]))
        have hd' := Lib.hid (decide_eq_false hd)
        clear hr hn hd
        subst hr'
        have S := ((St.start w).alloc 34 [.bool b2, .slice p1 l1 K1, .slice q1 j1 J1] (w.heap.size)).alloc 34 [.bool b2, .slice p2 l2 K2, .slice q2 j2 J2] (w.heap.size + 1)
        try simp only [List.cons_append, List.nil_append] at S
        refine iv4 S.hold n1 d1 n2 d2 ?_; clear n1 d1 n2 d2; intro n1 d1 n2 d2
        obtain ⟨c0_0, c0_1, c0_2⟩ := S.c3 0 rfl; obtain ⟨c1_0, c1_1, c1_2⟩ := S.c3 1 rfl
        go_enter Tryz.func88, Tryz.ntmps88
        go_wp2_with fail; clear c0_0 c0_1 c0_2 c1_0 c1_1 c1_2
        refine (S.call (equal_nat3 n1 n2 HX.out.1 hn'.out)).mono ?_
        clear S
        rintro e w1 ⟨rfl, S, H⟩
        refine iv4 H n1 d1 n2 d2 ?_; clear n1 d1 n2 d2; intro n1 d1 n2 d2
        clear H; obtain ⟨c0_0, c0_1, c0_2⟩ := S.c3 0 rfl; obtain ⟨c1_0, c1_1, c1_2⟩ := S.c3 1 rfl; go_wp2_with fail; clear c0_0 c0_1 c0_2 c1_0 c1_1 c1_2
        refine (S.call (equal_nat3 d1 d2 HX.out.2 hd'.out)).mono ?_
        clear S
        rintro e w2 ⟨rfl, S, H⟩
        refine iv4 H n1 d1 n2 d2 ?_; clear n1 d1 n2 d2; intro n1 d1 n2 d2
        clear H; obtain ⟨c0_0, c0_1, c0_2⟩ := S.c3 0 rfl; obtain ⟨c1_0, c1_1, c1_2⟩ := S.c3 1 rfl; go_wp2_with fail
        exact bodyPost_ret (v := .bool false) (by simp [results, Tryz.f88, go_sem]) rfl (⟨rfl, S.below⟩)
    · have hr' : r = false := by rw [← hr]; exact decide_eq_false (fun e => hn (by rw [e]))
      have hn' := Lib.hid (decide_eq_false hn)
      clear hr hn
      subst hr'
      have S := ((St.start w).alloc 34 [.bool b2, .slice p1 l1 K1, .slice q1 j1 J1] (w.heap.size)).alloc 34 [.bool b2, .slice p2 l2 K2, .slice q2 j2 J2] (w.heap.size + 1)
      try simp only [List.cons_append, List.nil_append] at S
      refine iv4 S.hold n1 d1 n2 d2 ?_; clear n1 d1 n2 d2; intro n1 d1 n2 d2
      obtain ⟨c0_0, c0_1, c0_2⟩ := S.c3 0 rfl; obtain ⟨c1_0, c1_1, c1_2⟩ := S.c3 1 rfl
      go_enter Tryz.func88, Tryz.ntmps88
      go_wp2_with fail; clear c0_0 c0_1 c0_2 c1_0 c1_1 c1_2
      refine (S.call (equal_nat3 n1 n2 HX.out.1 hn'.out)).mono ?_
      clear S
      rintro e w1 ⟨rfl, S, H⟩
      refine iv4 H n1 d1 n2 d2 ?_; clear n1 d1 n2 d2; intro n1 d1 n2 d2
      clear H; obtain ⟨c0_0, c0_1, c0_2⟩ := S.c3 0 rfl; obtain ⟨c1_0, c1_1, c1_2⟩ := S.c3 1 rfl; go_wp2_with fail
      exact bodyPost_ret (v := .bool false) (by simp [results, Tryz.f88, go_sem]) rfl (⟨rfl, S.below⟩)
  · have hr' : r = false := by rw [← hr]; exact decide_eq_false (fun e => hbb (by rw [← h1.out, ← h2.out, e]))
    have hb' : b2 = !b1 := by cases b1 <;> cases b2 <;> simp_all
    clear hr hbb
    subst hr'
    subst hb'
    have S := ((St.start w).alloc 34 [.bool b1, .slice p1 l1 K1, .slice q1 j1 J1] (w.heap.size)).alloc 34 [.bool (!b1), .slice p2 l2 K2, .slice q2 j2 J2] (w.heap.size + 1)
    try simp only [List.cons_append, List.nil_append] at S
    refine iv4 S.hold n1 d1 n2 d2 ?_; clear n1 d1 n2 d2; intro n1 d1 n2 d2
    obtain ⟨c0_0, c0_1, c0_2⟩ := S.c3 0 rfl; obtain ⟨c1_0, c1_1, c1_2⟩ := S.c3 1 rfl
    go_enter Tryz.func88, Tryz.ntmps88
    go_wp2_with fail
    exact bodyPost_ret (v := .bool false) (by simp [results, Tryz.f88, go_sem]) rfl (⟨rfl, S.below⟩)
theorem take_snoc {xs : List Rat} {k : Nat} {x : Rat} (h : xs[k]? = some x) : xs.take (k + 1) = xs.take k ++ [x] := by
  rw [List.take_add_one, h]
  rfl
set_option maxRecDepth 100000 in
set_option maxHeartbeats 4000000 in
theorem veqf_any {va vb : Value} {xs ys : List Rat} {w : World} (ha : Rats w va xs) (hb : Rats w vb ys) (n : Nat) (hla : xs.length = n) (hlb : ys.length = n) (hn : n ≤ 1000000) (hx : ∀ q, q ∈ xs → q.num.natAbs < maxN ∧ q.den < maxN) {r : Bool} (hr : decide (xs = ys) = r) :
    Calls Tryz.prog 87 #[va, vb, .func (.func 88) #[] #[]] w fun e w' => e = .returned (.bool r) ∧ Below w.heap.size w w' := by
  obtain ⟨pa, ca, rfl⟩ := ha.form
  obtain ⟨pb, cb, rfl⟩ := hb.form
  rw [hla] at ha ⊢
  rw [hlb] at hb ⊢
  have HI := Lib.hid (And.intro ha (And.intro hb (And.intro hx (And.intro hr (And.intro hla hlb)))))
  clear ha hb hx hr hla hlb
  have S := St.start w
  go_enter Tryz.func87, Tryz.ntmps87
  go_wp2_with fail
  go_loopw [17] (fun si wr => ∃ k : Nat, k ≤ n ∧ si = .int .i64 k ∧ Hid (xs.take k = ys.take k) ∧ St w wr []) (fun si _ => n - (intOf si).toNat)
  case atStart => exact ⟨0, by omega, rfl, rfl, S⟩
  case round =>
    clear S
    obtain ⟨k, hk, rfl, hv, S⟩ := hrel
    by_cases hlt : k < n
    · obtain ⟨ga, oa, x, v0, v1, v2, rfl, hga, hqa, a0, a1, a2, b1, p1, l1, K1, p2, l2, K2, rfl, rfl, rfl, hs1, n1, n2⟩ := HI.out.1.get hlt
      obtain ⟨gb, ob, y, v0, v1, v2, rfl, hgb, hqb, c0, c1, c2, b2, q1, j1, J1, q2, j2, J2, rfl, rfl, rfl, hs2, n3, n4⟩ := HI.out.2.1.get hlt
      replace a0 := (S.below.cell (p := ⟨ga, oa + k * 3, none⟩) hga).trans a0
      replace a1 := (S.below.cell (p := ⟨ga, oa + k * 3 + 1, none⟩) hga).trans a1
      replace a2 := (S.below.cell (p := ⟨ga, oa + k * 3 + 2, none⟩) hga).trans a2
      have HC := Lib.hid (And.intro hgb (And.intro c0 (And.intro c1 c2)))
      clear c0 c1 c2
      have HQ := Lib.hid (And.intro hlt (And.intro hqa (And.intro hqb hgb)))
      have hki : (k : Int) < ((n : Nat) : Int) := by omega
      replace n1 := n1.below S.below (Nat.le_refl _)
      replace n2 := n2.below S.below (Nat.le_refl _)
      replace n3 := n3.below S.below (Nat.le_refl _)
      replace n4 := n4.below S.below (Nat.le_refl _)
      clear hlt hk hqa hqb hga hgb
      go_upto_region 6 with fail
      have H := S.hnew 34 [.bool b1, .slice p1 l1 K1, .slice p2 l2 K2]
      replace S := S.alloc 34 [.bool b1, .slice p1 l1 K1, .slice p2 l2 K2] (wr.heap.size)
      simp only [List.cons_append, List.nil_append] at S
      refine iv4 H n1 n2 n3 n4 ?_; clear n1 n2 n3 n4; intro n1 n2 n3 n4
      clear H a0 a1 a2
      generalize (wr.alloc (.cells #[.bool b1, .slice p1 l1 K1, .slice p2 l2 K2] 34)) = w1 at S n1 n2 n3 n4 ⊢
      have a0 := (S.below.cell (p := ⟨gb, ob + k * 3, none⟩) HC.out.1).trans HC.out.2.1
      have a1 := (S.below.cell (p := ⟨gb, ob + k * 3 + 1, none⟩) HC.out.1).trans HC.out.2.2.1
      have a2 := (S.below.cell (p := ⟨gb, ob + k * 3 + 2, none⟩) HC.out.1).trans HC.out.2.2.2
      generalize hgx : wr.heap.size = gx at S ⊢
      clear hgx
      go_upto_region 7 with fail
      have H := S.hnew 34 [.bool b2, .slice q1 j1 J1, .slice q2 j2 J2]
      replace S := S.alloc 34 [.bool b2, .slice q1 j1 J1, .slice q2 j2 J2] (w1.heap.size)
      simp only [List.cons_append, List.nil_append] at S
      refine iv4 H n1 n2 n3 n4 ?_; clear n1 n2 n3 n4; intro n1 n2 n3 n4
      clear H a0 a1 a2
      generalize (w1.alloc (.cells #[.bool b2, .slice q1 j1 J1, .slice q2 j2 J2] 34)) = w2 at S n1 n2 n3 n4 ⊢
      generalize hgy : w1.heap.size = gy at S ⊢
      clear hgy; obtain ⟨a0, a1, a2⟩ := S.c3 0 rfl; obtain ⟨c0, c1, c2⟩ := S.c3 1 rfl
      by_cases hxy : x = y
      · have HE := Lib.hid (decide_eq_true hxy)
        clear hxy; go_wp2_with fail
        refine (S.call (rsame_any ⟨b1, p1, l1, K1, p2, l2, K2, rfl, hs1, n1, n2⟩ ⟨b2, q1, j1, J1, q2, j2, J2, rfl, hs2, n3, n4⟩ (HI.out.2.2.1 x (List.mem_of_getElem? HQ.out.2.1)) HE.out)).mono ?_
        clear S
        rintro e w4 ⟨rfl, S, H⟩
        clear H n1 n2 n3 n4 hs1 hs2 a0 a1 a2 c0 c1 c2
        replace S := S.take 0 rfl
        go_wp2_with fail
        go_roundw
        case rel => exact ⟨k + 1, HQ.out.1, by go_num, by rw [take_snoc HQ.out.2.1, take_snoc HQ.out.2.2.1, hv.out, of_decide_eq_true HE.out]; rfl, S⟩
        case measure => have := HQ.out.1; simp [intOf]; omega
      · have HE := Lib.hid (decide_eq_false hxy)
        have hr' : r = false := by
          rw [← HI.out.2.2.2.1]
          refine decide_eq_false (fun e => hxy ?_)
          have h1 := HQ.out.2.1
          rw [e, HQ.out.2.2.1] at h1
          exact (Option.some.inj h1).symm
        clear hxy
        subst hr'
        go_wp2_with fail
        refine (S.call (rsame_any ⟨b1, p1, l1, K1, p2, l2, K2, rfl, hs1, n1, n2⟩ ⟨b2, q1, j1, J1, q2, j2, J2, rfl, hs2, n3, n4⟩ (HI.out.2.2.1 x (List.mem_of_getElem? HQ.out.2.1)) HE.out)).mono ?_
        clear S
        rintro e w4 ⟨rfl, S, H⟩
        clear H n1 n2 n3 n4 hs1 hs2 a0 a1 a2 c0 c1 c2; go_wp2_with fail
        exact bodyPost_ret (v := .bool false) (by simp [results, Tryz.f87, go_sem]) rfl ⟨rfl, S.below⟩
    · have hki : ¬ (k : Int) < ((n : Nat) : Int) := by omega
      have hkn : k = n := by omega
      subst hkn
      have hr' : r = true := by
        rw [← HI.out.2.2.2.1]
        refine decide_eq_true ?_
        have := hv.out
        rwa [List.take_of_length_le (by rw [HI.out.2.2.2.2.1]; omega), List.take_of_length_le (by rw [HI.out.2.2.2.2.2]; omega)] at this
      subst hr'
      clear hlt hk; go_wp2_with fail
      exact bodyPost_ret (v := .bool true) (by simp [results, Tryz.f87, go_sem]) rfl ⟨rfl, S.below⟩
set_option maxRecDepth 100000 in
set_option maxHeartbeats 4000000 in
theorem vsame_any {va vb : Value} {xs ys : List Rat} {w : World} (ha : Rats w va xs) (hb : Rats w vb ys) (n : Nat) (hla : xs.length = n) (hlb : ys.length = n) (hn : n ≤ 1000000) (hx : ∀ q, q ∈ xs → q.num.natAbs < maxN ∧ q.den < maxN) {r : Bool} (hr : decide (xs = ys) = r) :
    Calls Tryz.prog 36 #[va, vb] w fun e w' => e = .returned (.bool r) ∧ Below w.heap.size w w' := by
  have HV := Lib.hid (veqf_any ha hb n hla hlb hn hx hr)
  clear ha hb hla hlb hn hx hr
  have S := St.start w
  go_enter Tryz.func36, Tryz.ntmps36
  go_wp2_with fail
  refine (S.call (HV.out)).mono ?_
  clear S
  rintro e w1 ⟨rfl, S, H⟩
  clear H; go_wp2_with fail
  exact bodyPost_ret (v := .bool r) (by simp [results, Tryz.f36, go_sem]) rfl (⟨rfl, S.below⟩)
set_option maxRecDepth 100000 in
set_option maxHeartbeats 4000000 in
theorem rcheck_any {va : Value} {x : Rat} {w : World} (ha : IsRat w va x) (hx : x.num.natAbs < maxN ∧ x.den < maxN) :
    Calls Tryz.prog 58 #[va] w fun e w' => e = .returned (.int .i64 0) ∧ Below w.heap.size w w' := by
  obtain ⟨b1, p1, l1, K1, q1, j1, J1, rfl, hb1, n1, d1⟩ := ha
  obtain ⟨t, ht⟩ : ∃ t, nbits x.den = t := ⟨_, rfl⟩
  have ht0 : ¬ t = 0 := by rw [← ht]; have := (nbits_spec x.den_nz).1; omega
  have htI : ((t : Int) == 0) = false := by simpa using ht0
  have htJ : ¬ (t : Int) = 0 := by omega
  have HX := Lib.hid hx
  have HD := Lib.hid (And.intro ht (show Nat.gcd x.num.natAbs x.den = 1 from x.reduced))
  clear hx ht
  have S := (St.start w).alloc 34 [.bool b1, .slice p1 l1 K1, .slice q1 j1 J1] (w.heap.size)
  try simp only [List.nil_append] at S
  replace n1 := n1.hold S.hold; replace d1 := d1.hold S.hold
  obtain ⟨c0_0, c0_1, c0_2⟩ := S.c3 0 rfl
  go_enter Tryz.func58, Tryz.ntmps58
  go_upto_region 1 with fail
  clear c0_0 c0_1 c0_2
  generalize (w.alloc (.cells #[.bool b1, .slice p1 l1 K1, .slice q1 j1 J1] 34)) = w1 at S n1 d1 ⊢
  have HH := Hold.drew w1
  replace n1 := n1.hold HH; replace d1 := d1.hold HH
  replace S := S.drew
  refine wp_region_held_drew (S := fun W => W.cell? ⟨w.heap.size, 0, none⟩ = some (.bool b1) ∧ W.cell? ⟨w.heap.size, 1, none⟩ = some (.slice p1 l1 K1) ∧ W.cell? ⟨w.heap.size, 2, none⟩ = some (.slice q1 j1 J1)) (by kernel_rfl) (S.c3 0 rfl) (fun hS => ?_)
  generalize w1.drew = w2 at S n1 d1 HH hS ⊢
  refine tk 0 hS ?_
  refine tk 1 hS ?_
  refine tk 3 hS ?_
  refine tk 4 hS ?_
  refine rd 2 fun KK hKK => ?_
  go_simp; clear hS
  refine (S.call (wcheck_any ⟨_, _, _, by rw [hb1.out], n1⟩ HX.out.1)).mono ?_
  clear S
  rintro e w3 ⟨rfl, S, H⟩
  replace n1 := n1.hold H; replace d1 := d1.hold H; replace HH := HH.trans H; clear H
  go_wp2_with fail
  refine ho hKK (S.c3 0 rfl) fun hS => ?_
  clear hKK KK
  refine rd 5 fun KK hKK => ?_
  go_simp; clear hS
  refine (S.call (check_nat d1 HX.out.2)).mono ?_
  clear S
  rintro e w4 ⟨rfl, S, H⟩
  replace n1 := n1.hold H; replace d1 := d1.hold H; replace HH := HH.trans H; clear H
  go_wp2_with fail
  refine ho hKK (S.c3 0 rfl) fun hS => ?_
  clear hKK KK
  refine rd 6 fun KK hKK => ?_
  go_simp; clear hS
  have H := S.hnew 36 [.int .i64 0, .int .i64 0]
  replace S := S.al 36 [.int .i64 0, .int .i64 0] (w4.heap.size)
  replace n1 := n1.hold H; replace d1 := d1.hold H; replace HH := HH.trans H; clear H
  refine ho hKK (S.c3 0 rfl) fun hS => ?_
  generalize (w4.alloc (.cells #[.int .i64 0, .int .i64 0] 36)) = w5 at S n1 d1 HH hS ⊢
  clear hKK KK
  refine rd 7 fun KK hKK => ?_
  go_simp; clear hS
  refine (S.call (or_two S 1 rfl)).mono ?_
  clear S
  rintro e w6 ⟨rfl, S, H⟩
  replace n1 := n1.hold H; replace d1 := d1.hold H; replace HH := HH.trans H; clear H
  go_wp2_with fail
  refine ho hKK (S.c3 0 rfl) fun hS => ?_
  clear hKK KK
  refine rd 8 fun KK hKK => ?_
  go_simp
  refine ho hKK hS fun hS => ?_
  clear hKK KK
  refine wpAnyH_done (by kernel_rfl) ?_ _
  clear hS HH; obtain ⟨c0_0, c0_1, c0_2⟩ := S.c3 0 rfl; go_wp2_with fail; clear c0_0 c0_1 c0_2
  refine (S.call (bits_nat d1 HX.out.2 HD.out.1)).mono ?_
  clear S
  rintro e w7 ⟨rfl, S, H⟩
  replace n1 := n1.hold H; replace d1 := d1.hold H
  clear H; obtain ⟨c0_0, c0_1, c0_2⟩ := S.c3 0 rfl; go_wp2_with fail; clear c0_0 c0_1 c0_2
  refine (S.call (gcd_any n1 d1 HX.out.1 HX.out.2)).mono ?_
  clear S
  rintro e w8 ⟨⟨v, rfl, nv⟩, S, H⟩
  replace n1 := n1.hold H; replace d1 := d1.hold H
  clear H; obtain ⟨c0_0, c0_1, c0_2⟩ := S.c3 0 rfl
  rw [HD.out.2] at nv
  go_wp2_with fail; clear c0_0 c0_1 c0_2
  refine (S.call (bits_nat nv (lit_max 1 (by decide)) (t := 1) rfl)).mono ?_
  clear S
  rintro e w9 ⟨rfl, S, H⟩
  refine iv3 H n1 d1 nv ?_; clear n1 d1 nv; intro n1 d1 nv
  clear H; obtain ⟨c0_0, c0_1, c0_2⟩ := S.c3 0 rfl; go_wp2_with fail
  exact bodyPost_ret (v := .int .i64 0) (by simp [results, Tryz.f58, go_sem]) rfl (⟨rfl, S.below⟩)
set_option maxRecDepth 100000 in
set_option maxHeartbeats 4000000 in
theorem vcheck_any {va : Value} {qs : List Rat} {n : Nat} {w : World} (h : Rats w va qs) (hn : qs.length = n) (h16 : n ≤ 16) (hb : ∀ q, q ∈ qs → q.num.natAbs < maxN ∧ q.den < maxN) :
    Calls Tryz.prog 53 #[va, .int .i64 n] w fun e w' => e = .returned (.int .i64 0) ∧ Below w.heap.size w w' := by
  obtain ⟨p, c, rfl⟩ := h.form
  rw [hn] at h
  rw [hn]
  have HI := Lib.hid (And.intro h hb)
  have g1 : ¬ ((n : Nat) : Int) < 0 := by omega
  have g2 : ¬ (16 : Int) < ((n : Nat) : Int) := by omega
  clear h hb
  have S := St.start w
  go_enter Tryz.func53, Tryz.ntmps53
  go_wp2_with fail
  go_loopw [22] (fun si wr => ∃ k : Nat, k ≤ n ∧ si = .int .i64 k ∧ St w wr []) (fun si _ => n - (intOf si).toNat)
  case atStart => exact ⟨0, by omega, rfl, S⟩
  case round =>
    clear S
    obtain ⟨k, hk, rfl, S⟩ := hrel
    by_cases hlt : k < n
    · obtain ⟨g, off, q, v0, v1, v2, rfl, hg, hq, a0, a1, a2, b, p1, l1, K1, p2, l2, K2, rfl, rfl, rfl, hs, n1, n2⟩ := HI.out.1.get hlt
      replace a0 := (S.below.cell (p := ⟨g, off + k * 3, none⟩) hg).trans a0
      replace a1 := (S.below.cell (p := ⟨g, off + k * 3 + 1, none⟩) hg).trans a1
      replace a2 := (S.below.cell (p := ⟨g, off + k * 3 + 2, none⟩) hg).trans a2
      have HQ := Lib.hid (And.intro (HI.out.2 q (List.mem_of_getElem? hq)) hlt)
      have hki : (k : Int) < ((n : Nat) : Int) := by omega
      replace n1 := n1.below S.below (Nat.le_refl _)
      replace n2 := n2.below S.below (Nat.le_refl _)
      clear hg hq hlt
      have H := S.hnew 34 [.bool b, .slice p1 l1 K1, .slice p2 l2 K2]
      replace S := S.al 34 [.bool b, .slice p1 l1 K1, .slice p2 l2 K2] (wr.heap.size)
      replace n1 := n1.hold H; replace n2 := n2.hold H
      clear H; obtain ⟨c0_0, c0_1, c0_2⟩ := S.c3 0 rfl; go_wp2_with fail; clear c0_0 c0_1 c0_2
      refine (S.call (rcheck_any ⟨b, p1, l1, K1, p2, l2, K2, rfl, hs, n1, n2⟩ HQ.out.1)).mono ?_
      clear S
      rintro e w21 ⟨rfl, S, H⟩
      replace n1 := n1.hold H; replace n2 := n2.hold H
      clear H; obtain ⟨c0_0, c0_1, c0_2⟩ := S.c3 0 rfl; go_wp2_with fail
      replace S := S.take 0 (L := []) rfl
      go_roundw
      case rel => exact ⟨k + 1, HQ.out.2, by go_num, S⟩
      case measure => have := HQ.out.2; simp [intOf]; omega
    · have hki : ¬ (k : Int) < ((n : Nat) : Int) := by omega
      clear hlt; go_wp2_with fail
      exact bodyPost_ret (v := .int .i64 0) (by simp [results, Tryz.f53, go_sem]) rfl (⟨rfl, S.below⟩)
set_option maxRecDepth 100000 in
set_option maxHeartbeats 1000000 in
theorem or_list (g n : Nat) (E : Nat → Int) (w : World) (hg : g < w.heap.size) (hn : n ≤ 1000) (hs : ∀ j, j < n → w.cell? ⟨g, j, none⟩ = some (.int .i64 (E j))) :
    Calls Tryz.prog 69 #[.slice (some ⟨g, 0, none⟩) n n] w fun e w' => (∃ r, e = .returned (.int .i64 r) ∧ Hid (r = 0 → ∀ j, j < n → E j = 0)) ∧ Below w.heap.size w w' := by
  have HS := Lib.hid hs
  clear hs
  have S := St.start w
  go_enter Tryz.func69, Tryz.ntmps69
  go_wp2_with fail
  go_loopw [8] (fun si wr => ∃ k : Nat, k ≤ n ∧ si = .int .i64 k ∧ Hid (∀ j, j < k → E j = 0) ∧ St w wr []) (fun si _ => n - (intOf si).toNat)
  case atStart => exact ⟨0, by omega, rfl, fun j hj => by omega, S⟩
  case round =>
    obtain ⟨k, hk, rfl, hz, S⟩ := hrel
    by_cases hlt : k < n
    · have a0 := (S.below.cell (p := ⟨g, k, none⟩) hg).trans (HS.out k hlt)
      have HL := Lib.hid hlt
      have hki : (k : Int) < ((n : Nat) : Int) := by omega
      obtain ⟨ek, hek⟩ : ∃ ek, E k = ek := ⟨_, rfl⟩
      have HE := Lib.hid hek
      rw [hek] at a0
      clear hlt hek
      by_cases h0 : ek = 0
      · have h0' : (ek != 0) = false := by rw [h0]; rfl
        have H0 := Lib.hid h0
        clear h0; go_wp2_with fail
        go_roundw
        case rel =>
          refine ⟨k + 1, HL.out, by go_num, fun j hj => ?_, S⟩
          by_cases hjk : j = k
          · rw [hjk, HE.out, H0.out]
          · exact hz.out j (by omega)
        case measure => have := HL.out; simp [intOf]; omega
      · have h0' : (ek != 0) = true := by simpa using h0
        have H0 := Lib.hid h0
        clear h0; go_wp2_with fail
        go_ret
        exact ⟨⟨ek, rfl, fun h => absurd h H0.out⟩, S.below⟩
    · have hge : ¬ (k : Int) < ((n : Nat) : Int) := by omega
      have HZ : ∀ j, j < n → E j = 0 := fun j hj => hz.out j (by omega)
      have HZ := Lib.hid HZ
      clear hlt hz
      go_wp2
      go_ret
      exact ⟨⟨0, rfl, fun _ => HZ.out⟩, S.below⟩
theorem or_pair {g : Nat} {w W : World} {L : List (Nat × TypeId × List Value)} (S : St w W L) (i : Nat) {t : TypeId} {c d : Int} (hi : L[i]? = some (g, t, [.int .i64 c, .int .i64 d])) :
    Calls Tryz.prog 69 #[.slice (some ⟨g, 0, none⟩) 2 2] W fun e w' => (∃ r, e = .returned (.int .i64 r) ∧ Hid (r = 0 → c = 0 ∧ d = 0)) ∧ Below W.heap.size W w' :=
  (or_list g 2 (fun j => [c, d].getD j 0) W (S.lt i hi) (by decide) fun j hj => by
    match j, hj with
    | 0, _ => exact S.c i 0 hi rfl
    | 1, _ => exact S.c i 1 hi rfl).mono fun e w' ⟨⟨r, he, hr⟩, hB⟩ => ⟨⟨r, he, fun h => ⟨hr.out h 0 (by decide), hr.out h 1 (by decide)⟩⟩, hB⟩
theorem check_rawN (p : Option Addr) (K l : Nat) (es : List Nat) (w : World) (hat : At .u32 w p K es) (hl : es.length = l) (h5 : l ≤ 1000000) (c : Int) (hc : ((checkOf es : Nat) : Int) = c) :
    Calls Tryz.prog 110 #[.slice p l K] w fun e w' => e = .returned (.int .i64 c) ∧ Below w.heap.size w w' := by
  subst hl; subst hc
  exact check_any hat.nums h5
def ValidR (b : Bool) (ds es : List Nat) : Prop := (cut ds = ds ∧ (b = true → ds ≠ [])) ∧ cut es = es ∧ val 4294967296 es ≠ 0 ∧ Nat.gcd (val 4294967296 ds) (val 4294967296 es) = 1
theorem check_cut {es : List Nat} (hl : es.length ≤ 512) (h : ((checkOf es : Nat) : Int) = 0) : cut es = es := by
  have hz : checkOf es = 0 := by omega
  unfold checkOf at hz
  rw [if_neg (by omega)] at hz
  split at hz
  · omega
  · rename_i h2
    have := cut_le es
    exact cut_full es (by omega)
theorem bits_le_one {g : Nat} (h0 : g ≠ 0) (h : ¬ 1 < nbits g) : g = 1 := by
  obtain ⟨h1, h2, h3⟩ := nbits_spec h0
  have : nbits g = 1 := by omega
  rw [this] at h3
  omega
set_option maxRecDepth 100000 in
set_option maxHeartbeats 4000000 in
theorem rcheck_raw (b : Bool) (p p' : Option Addr) (K K' l l' : Nat) (ds es : List Nat) (w : World) (at1 : At .u32 w p K ds) (at2 : At .u32 w p' K' es) (d1 : Dig 4294967296 ds) (d2 : Dig 4294967296 es) (hl : ds.length = l) (hl' : es.length = l') (h5 : l ≤ 512) (h5' : l' ≤ 512) :
    Calls Tryz.prog 58 #[.agg #[.bool b, .slice p l K, .slice p' l' K']] w fun e w' => (∃ c : Int, e = .returned (.int .i64 c) ∧ Hid (c = 0 → ValidR b ds es)) ∧ Below w.heap.size w w' := by
  obtain ⟨c2, hc2⟩ : ∃ c2 : Int, ((checkOf es : Nat) : Int) = c2 := ⟨_, rfl⟩
  have HD := Lib.hid (And.intro d1 (And.intro d2 (And.intro hl (And.intro hl' (And.intro h5 (And.intro h5' hc2))))))
  clear d1 d2 hl hl' h5 h5' hc2
  have S := (St.start w).alloc 34 [.bool b, .slice p l K, .slice p' l' K'] (w.heap.size)
  try simp only [List.nil_append] at S
  replace at1 := at1.hold S.hold; replace at2 := at2.hold S.hold
  obtain ⟨c0_0, c0_1, c0_2⟩ := S.c3 0 rfl
  go_enter Tryz.func58, Tryz.ntmps58
  go_upto_region 1 with fail
  clear c0_0 c0_1 c0_2
  generalize (w.alloc (.cells #[.bool b, .slice p l K, .slice p' l' K'] 34)) = w1 at S at1 at2 ⊢
  have HH := Hold.drew w1
  replace at1 := at1.hold HH; replace at2 := at2.hold HH
  replace S := S.drew
  refine wp_region_held_drew (S := fun W => W.cell? ⟨w.heap.size, 0, none⟩ = some (.bool b) ∧ W.cell? ⟨w.heap.size, 1, none⟩ = some (.slice p l K) ∧ W.cell? ⟨w.heap.size, 2, none⟩ = some (.slice p' l' K')) (by kernel_rfl) (S.c3 0 rfl) (fun hS => ?_)
  generalize w1.drew = w2 at S at1 at2 HH hS ⊢
  refine tk 0 hS ?_
  refine tk 1 hS ?_
  refine tk 3 hS ?_
  refine tk 4 hS ?_
  refine rd 2 fun KK hKK => ?_
  go_simp; clear hS
  refine (S.call (wcheck_raw b p K l ds _ at1 HD.out.1 HD.out.2.2.1 HD.out.2.2.2.2.1)).mono ?_
  clear S
  rintro e w3 ⟨⟨c1, rfl, h1⟩, S, H⟩
  replace at1 := at1.hold H; replace at2 := at2.hold H; replace HH := HH.trans H; clear H
  go_wp2_with fail
  refine ho hKK (S.c3 0 rfl) fun hS => ?_
  clear hKK KK
  refine rd 5 fun KK hKK => ?_
  go_simp; clear hS
  refine (S.call (check_rawN p' K' l' es _ at2 HD.out.2.2.2.1 (by have := HD.out.2.2.2.2.2.1; omega) c2 HD.out.2.2.2.2.2.2)).mono ?_
  clear S
  rintro e w4 ⟨rfl, S, H⟩
  replace at1 := at1.hold H; replace at2 := at2.hold H; replace HH := HH.trans H; clear H
  go_wp2_with fail
  refine ho hKK (S.c3 0 rfl) fun hS => ?_
  clear hKK KK
  refine rd 6 fun KK hKK => ?_
  go_simp; clear hS
  have H := S.hnew 36 [.int .i64 c1, .int .i64 c2]
  replace S := S.al 36 [.int .i64 c1, .int .i64 c2] (w4.heap.size)
  replace at1 := at1.hold H; replace at2 := at2.hold H; replace HH := HH.trans H; clear H
  refine ho hKK (S.c3 0 rfl) fun hS => ?_
  generalize (w4.alloc (.cells #[.int .i64 c1, .int .i64 c2] 36)) = w5 at S at1 at2 HH hS ⊢
  clear hKK KK
  refine rd 7 fun KK hKK => ?_
  go_simp; clear hS
  refine (S.call (or_pair S 1 rfl)).mono ?_
  clear S
  rintro e w6 ⟨⟨r, rfl, hr⟩, S, H⟩
  replace at1 := at1.hold H; replace at2 := at2.hold H; replace HH := HH.trans H; clear H
  go_wp2_with fail
  refine ho hKK (S.c3 0 rfl) fun hS => ?_
  clear hKK KK
  refine rd 8 fun KK hKK => ?_
  go_simp
  refine ho hKK hS fun hS => ?_
  clear hKK KK
  refine wpAnyH_done (by kernel_rfl) ?_ _
  clear hS HH
  by_cases h0 : r = 0
  · have h0' : (r != 0) = false := by rw [h0]; rfl
    obtain ⟨e1, e2⟩ := hr.out h0
    have v1 := h1.out e1
    have v2 := check_cut (by have := HD.out.2.2.2.1; have := HD.out.2.2.2.2.2.1; omega) (HD.out.2.2.2.2.2.2.trans e2)
    have nn : IsNat w6 (.slice p l K) (val 4294967296 ds) := by rw [← HD.out.2.2.1]; exact ⟨ds, at1.nums, ⟨HD.out.1, v1.1⟩, rfl⟩
    have nd : IsNat w6 (.slice p' l' K') (val 4294967296 es) := by rw [← HD.out.2.2.2.1]; exact ⟨es, at2.nums, ⟨HD.out.2.1, v2⟩, rfl⟩
    have m1 : val 4294967296 ds < maxN := Can.len_max ⟨HD.out.1, v1.1⟩ |>.1 (by rw [HD.out.2.2.1]; exact HD.out.2.2.2.2.1)
    have m2 : val 4294967296 es < maxN := Can.len_max ⟨HD.out.2.1, v2⟩ |>.1 (by rw [HD.out.2.2.2.1]; exact HD.out.2.2.2.2.2.1)
    obtain ⟨n, hn⟩ : ∃ n, val 4294967296 ds = n := ⟨_, rfl⟩
    obtain ⟨m, hm⟩ : ∃ m, val 4294967296 es = m := ⟨_, rfl⟩
    rw [hn] at nn m1
    rw [hm] at nd m2
    have HV := Lib.hid (And.intro v1 (And.intro v2 (And.intro hn (And.intro hm (And.intro m1 m2)))))
    obtain ⟨t, ht⟩ : ∃ t, nbits m = t := ⟨_, rfl⟩
    have HT := Lib.hid ht
    clear hr h1 e1 e2 v1 v2 hn hm m1 m2 ht h0; clear at1 at2; obtain ⟨c0_0, c0_1, c0_2⟩ := S.c3 0 rfl; go_wp2_with fail; clear c0_0 c0_1 c0_2
    refine (S.call (bits_nat nd HV.out.2.2.2.2.2 HT.out)).mono ?_
    clear S
    rintro e w7 ⟨rfl, S, H⟩
    replace nn := nn.hold H; replace nd := nd.hold H
    clear H; obtain ⟨c0_0, c0_1, c0_2⟩ := S.c3 0 rfl
    by_cases ht0 : t = 0
    · subst ht0
      go_wp2_with fail
      exact bodyPost_ret (v := .int .i64 2) (by simp [results, Tryz.f58, go_sem]) rfl (⟨⟨2, rfl, fun h => by cases h⟩, S.below⟩)
    · have htI : ((t : Int) == 0) = false := by simpa using ht0
      have htJ : ¬ (t : Int) = 0 := by omega
      have hm0 : m ≠ 0 := fun e => ht0 (by rw [← HT.out, e]; rfl)
      have HM := Lib.hid hm0
      clear ht0 hm0; go_wp2_with fail; clear c0_0 c0_1 c0_2
      refine (S.call (gcd_any nn nd HV.out.2.2.2.2.1 HV.out.2.2.2.2.2)).mono ?_
      clear S
      rintro e w8 ⟨⟨v, rfl, nv⟩, S, H⟩
      replace nn := nn.hold H; replace nd := nd.hold H
      clear H; obtain ⟨c0_0, c0_1, c0_2⟩ := S.c3 0 rfl
      obtain ⟨u, hu⟩ : ∃ u, nbits (Nat.gcd n m) = u := ⟨_, rfl⟩
      have HU := Lib.hid hu
      have hgm : Nat.gcd n m < maxN := Nat.lt_of_le_of_lt (Nat.gcd_le_right _ (by have := HM.out; omega)) HV.out.2.2.2.2.2
      have HG := Lib.hid hgm
      clear hu hgm; go_wp2_with fail; clear c0_0 c0_1 c0_2
      refine (S.call (bits_nat nv HG.out HU.out)).mono ?_
      clear S
      rintro e w9 ⟨rfl, S, H⟩
      refine iv3 H nn nd nv ?_; clear nn nd nv; intro nn nd nv
      clear H; obtain ⟨c0_0, c0_1, c0_2⟩ := S.c3 0 rfl
      by_cases hu1 : 1 < u
      · have hu1' : (1 : Int) < (u : Int) := by omega
        go_wp2_with fail
        exact bodyPost_ret (v := .int .i64 2) (by simp [results, Tryz.f58, go_sem]) rfl (⟨⟨2, rfl, fun h => by cases h⟩, S.below⟩)
      · have hu1' : ¬ (1 : Int) < (u : Int) := by omega
        have HOK := Lib.hid (show ValidR b ds es from ⟨HV.out.1, HV.out.2.1, by rw [HV.out.2.2.2.1]; exact HM.out, by rw [HV.out.2.2.1, HV.out.2.2.2.1]; exact bits_le_one (fun e => HM.out (Nat.gcd_eq_zero_iff.1 e).2) (by rw [HU.out]; exact hu1)⟩)
        clear hu1; go_wp2_with fail
        exact bodyPost_ret (v := .int .i64 0) (by simp [results, Tryz.f58, go_sem]) rfl (⟨⟨0, rfl, fun _ => HOK.out⟩, S.below⟩)
  · have h0' : (r != 0) = true := by simpa using h0
    have H0 := Lib.hid h0
    clear h0; go_wp2_with fail
    exact bodyPost_ret (v := .int .i64 r) (by simp [results, Tryz.f58, go_sem]) rfl (⟨⟨r, rfl, fun h => absurd h H0.out⟩, S.below⟩)
def TriedR (k : Nat) (b : Bool) (ds es : List Nat) : Prop := ds.length ≤ k ∧ es.length ≤ k ∧ ValidR b ds es
structure RawQ where
  b : Bool
  p : Option Addr
  q : Option Addr
  K : Nat
  J : Nat
  ds : List Nat
  es : List Nat
instance rawQ_inh : Inhabited RawQ := ⟨⟨false, none, none, 0, 0, [], []⟩⟩
def RawQ.cells (x : RawQ) : List Value := [.bool x.b, .slice x.p x.ds.length x.K, .slice x.q x.es.length x.J]
def RawQ.In (w : World) (x : RawQ) : Prop := At .u32 w x.p x.K x.ds ∧ At .u32 w x.q x.J x.es ∧ Dig 4294967296 x.ds ∧ Dig 4294967296 x.es
theorem RawQ.In.hold {w w' : World} {x : RawQ} (H : Hold w w') : x.In w → x.In w'
  | ⟨h1, h2, h3, h4⟩ => ⟨h1.hold H, h2.hold H, h3, h4⟩
instance hdI30 {w w' : World} {x : RawQ} : Hd w w' (x.In w) (x.In w') := ⟨RawQ.In.hold⟩
def Raws (w : World) (v : Value) (xs : List RawQ) : Prop := ∃ p c, v = .slice p xs.length c ∧ (p = none → c = 0) ∧ xs.length ≤ c ∧ ∀ (j : Nat) x, xs[j]? = some x → ∃ g off, p = some ⟨g, off, none⟩ ∧ g < w.heap.size ∧ w.cell? ⟨g, off + j * 3, none⟩ = some (.bool x.b) ∧ w.cell? ⟨g, off + j * 3 + 1, none⟩ = some (.slice x.p x.ds.length x.K) ∧ w.cell? ⟨g, off + j * 3 + 2, none⟩ = some (.slice x.q x.es.length x.J) ∧ x.In w
theorem Raws.to {w w' : World} {v : Value} {xs : List RawQ} (h : Raws w v xs) (hB : Below w.heap.size w w') : Raws w' v xs := by
  obtain ⟨p, c, e, h1, h2, h3⟩ := h
  refine ⟨p, c, e, h1, h2, fun j q hq => ?_⟩
  obtain ⟨g, off, hp, hg, a0, a1, a2, hr⟩ := h3 j q hq
  exact ⟨g, off, hp, Nat.lt_of_lt_of_le hg hB.size, (hB.cell (p := ⟨g, off + j * 3, none⟩) hg).trans a0, (hB.cell (p := ⟨g, off + j * 3 + 1, none⟩) hg).trans a1, (hB.cell (p := ⟨g, off + j * 3 + 2, none⟩) hg).trans a2, hr.hold (Hold.of_below hB)⟩
theorem Raws.form {w : World} {v : Value} {xs : List RawQ} (h : Raws w v xs) : ∃ p c, v = .slice p xs.length c := by
  obtain ⟨p, c, e, _⟩ := h
  exact ⟨p, c, e⟩
theorem Raws.get {w : World} {p : Option Addr} {n c : Nat} {xs : List RawQ} (h : Raws w (.slice p n c) xs) {j : Nat} (hj : j < n) : ∃ g off b p1 l1 K1 p2 l2 K2 ds es, p = some ⟨g, off, none⟩ ∧ g < w.heap.size ∧ w.cell? ⟨g, off + j * 3, none⟩ = some (.bool b) ∧ w.cell? ⟨g, off + j * 3 + 1, none⟩ = some (.slice p1 l1 K1) ∧ w.cell? ⟨g, off + j * 3 + 2, none⟩ = some (.slice p2 l2 K2) ∧
    xs[j]? = some ⟨b, p1, p2, K1, K2, ds, es⟩ ∧ ds.length = l1 ∧ es.length = l2 ∧ At .u32 w p1 K1 ds ∧ At .u32 w p2 K2 es ∧ Dig 4294967296 ds ∧ Dig 4294967296 es := by
  obtain ⟨p', c', e, _, _, h3⟩ := h
  cases e
  have hq : xs[j]? = some (xs[j]'hj) := List.getElem?_eq_getElem _
  obtain ⟨g, off, hp, hg, a0, a1, a2, hr⟩ := h3 j _ hq
  exact ⟨g, off, _, _, _, _, _, _, _, _, _, hp, hg, a0, a1, a2, hq, rfl, rfl, hr.1, hr.2.1, hr.2.2.1, hr.2.2.2⟩
def RawQ.Tried (k : Nat) (x : RawQ) : Prop := TriedR k x.b x.ds x.es
def RawQ.IsQ (k : Nat) (x : RawQ) (q : Rat) : Prop := Hid (negB q.num = x.b) ∧ RB q k ∧ ∀ w, x.In w → IsNat w (.slice x.p x.ds.length x.K) q.num.natAbs ∧ IsNat w (.slice x.q x.es.length x.J) q.den
theorem RawQ.Tried.isQ {k : Nat} {x : RawQ} (h : x.Tried k) (d1 : Dig 4294967296 x.ds) (d2 : Dig 4294967296 x.es) : ∃ q : Rat, x.IsQ k q := by
  obtain ⟨h1, h2, ⟨v1, v2⟩, v3, v4, v5⟩ := h
  have c1 : Can 4294967296 x.ds := ⟨d1, v1⟩
  have c2 : Can 4294967296 x.es := ⟨d2, v3⟩
  have n1 : ∀ w, x.In w → IsNat w (.slice x.p x.ds.length x.K) (val 4294967296 x.ds) := fun w hw => ⟨x.ds, hw.1.nums, c1, rfl⟩
  have n2 : ∀ w, x.In w → IsNat w (.slice x.q x.es.length x.J) (val 4294967296 x.es) := fun w hw => ⟨x.es, hw.2.1.nums, c2, rfl⟩
  have b1 := nb_len c1 h1
  have b2 := nb_len c2 h2
  cases hb : x.b with
  | false =>
    refine ⟨⟨(val 4294967296 x.ds : Nat), val 4294967296 x.es, v4, by simpa [Nat.Coprime] using v5⟩, by rw [hb]; exact negB_neg (by show ¬ (((val 4294967296 x.ds : Nat) : Int) < 0); omega), ⟨by simpa using b1, b2⟩, fun w hw => ⟨by simpa using n1 w hw, n2 w hw⟩⟩
  | true =>
    have h0 : val 4294967296 x.ds ≠ 0 := fun e => v2 hb (c1.eq_nil (by decide) e)
    refine ⟨⟨-((val 4294967296 x.ds : Nat) : Int), val 4294967296 x.es, v4, by simpa [Nat.Coprime] using v5⟩, by rw [hb]; exact negB_pos (by show -((val 4294967296 x.ds : Nat) : Int) < 0; omega), ⟨by simpa using b1, b2⟩, fun w hw => ⟨by simpa using n1 w hw, n2 w hw⟩⟩
def AllQ (k : Nat) (xs : List RawQ) (qs : List Rat) : Prop := xs.length = qs.length ∧ ∀ (j : Nat) x q, xs[j]? = some x → qs[j]? = some q → x.IsQ k q
theorem allQ_ex {k : Nat} : ∀ {xs : List RawQ}, (∀ x, x ∈ xs → x.Tried k ∧ Dig 4294967296 x.ds ∧ Dig 4294967296 x.es) → ∃ qs, AllQ k xs qs
  | [], _ => ⟨[], rfl, fun j x q h => by simp at h⟩
  | x :: xs, h => by
    obtain ⟨qs, hl, hq⟩ := allQ_ex (xs := xs) fun y hy => h y (List.mem_cons_of_mem _ hy)
    obtain ⟨h1, h2, h3⟩ := h x (List.mem_cons_self ..)
    obtain ⟨q, hx⟩ := h1.isQ h2 h3
    refine ⟨q :: qs, by simp [hl], fun j y r hy hr => ?_⟩
    cases j with
    | zero => simp at hy hr; subst hy hr; exact hx
    | succ j => exact hq j y r (by simpa using hy) (by simpa using hr)
theorem AllQ.rb {k : Nat} {xs : List RawQ} {qs : List Rat} (h : AllQ k xs qs) : ∀ q, q ∈ qs → RB q k := fun q hq => by
  obtain ⟨j, hj⟩ := List.getElem?_of_mem hq
  have hl : j < xs.length := by rw [h.1]; exact (List.getElem?_eq_some_iff.1 hj).1
  exact (h.2 j _ q (List.getElem?_eq_getElem hl) hj).2.1
theorem Raws.rats {w : World} {v : Value} {xs : List RawQ} {qs : List Rat} {k : Nat} (h : Raws w v xs) (hq : AllQ k xs qs) : Rats w v qs := by
  obtain ⟨p, c, e, h1, h2, h3⟩ := h
  refine ⟨p, c, by rw [e, hq.1], h1, by rw [← hq.1]; exact h2, fun j q hj => ?_⟩
  have hl : j < xs.length := by rw [hq.1]; exact (List.getElem?_eq_some_iff.1 hj).1
  obtain ⟨g, off, hp, hg, a0, a1, a2, hr⟩ := h3 j _ (List.getElem?_eq_getElem hl)
  have hx := hq.2 j _ q (List.getElem?_eq_getElem hl) hj
  obtain ⟨n1, n2⟩ := hx.2.2 w hr
  exact ⟨g, off, _, _, _, hp, hg, a0, a1, a2, _, _, _, _, _, _, _, rfl, rfl, rfl, hx.1, n1, n2⟩
theorem Raws.dig {w : World} {v : Value} {xs : List RawQ} (h : Raws w v xs) : ∀ x, x ∈ xs → Dig 4294967296 x.ds ∧ Dig 4294967296 x.es := fun x hx => by
  obtain ⟨p, c, _, _, _, h3⟩ := h
  obtain ⟨j, hj⟩ := List.getElem?_of_mem hx
  obtain ⟨_, _, _, _, _, _, _, hr⟩ := h3 j x hj
  exact hr.2.2
set_option maxRecDepth 100000 in
theorem check_big (p : Option Addr) (K l : Nat) (w : World) (h : 512 < l) :
    Calls Tryz.prog 110 #[.slice p l K] w fun e w' => e = .returned (.int .i64 11) ∧ Below w.heap.size w w' := by
  have h' : (512 : Int) < (l : Int) := by omega
  have S := St.start w
  try simp only [List.cons_append, List.nil_append] at S
  go_enter Tryz.func110, Tryz.ntmps110
  go_wp2_with fail
  exact bodyPost_ret (v := .int .i64 11) (by simp [results, Tryz.f110, go_sem]) rfl (⟨rfl, S.below⟩)
theorem check_all (p : Option Addr) (K l : Nat) (es : List Nat) (w : World) (hat : At .u32 w p K es) (hl : es.length = l) (c : Int) (hc : ((checkOf es : Nat) : Int) = c) :
    Calls Tryz.prog 110 #[.slice p l K] w fun e w' => e = .returned (.int .i64 c) ∧ Below w.heap.size w w' := by
  by_cases h : 512 < l
  · have e : checkOf es = 11 := by unfold checkOf; rw [if_pos (by omega)]
    subst hc
    rw [e]
    exact check_big p K l w h
  · exact check_rawN p K l es w hat hl (by omega) c hc
set_option maxRecDepth 100000 in
theorem wcheck_big (b : Bool) (p : Option Addr) (K l : Nat) (w : World) (h : 512 < l) :
    Calls Tryz.prog 109 #[.agg #[.bool b, .slice p l K]] w fun e w' => e = .returned (.int .i64 11) ∧ Below w.heap.size w w' := by
  have HL := Lib.hid h
  clear h
  have S := (St.start w).alloc 25 [.bool b, .slice p l K] (w.heap.size)
  try simp only [List.nil_append] at S
  have c0_0 := S.c 0 0 rfl rfl; have c0_1 := S.c 0 1 rfl rfl
  go_enter Tryz.func109, Tryz.ntmps109
  go_wp2_with fail; clear c0_0 c0_1
  refine (S.call (check_big p K l _ HL.out)).mono ?_
  clear S
  rintro e w1 ⟨rfl, S, H⟩
  clear H; have c0_0 := S.c 0 0 rfl rfl; have c0_1 := S.c 0 1 rfl rfl; go_wp2_with fail
  exact bodyPost_ret (v := .int .i64 11) (by simp [results, Tryz.f109, go_sem]) rfl (⟨rfl, S.below⟩)
theorem wcheck_all (b : Bool) (p : Option Addr) (K l : Nat) (ds : List Nat) (w : World) (hat : At .u32 w p K ds) (hd : Dig 4294967296 ds) (hl : ds.length = l) :
    Calls Tryz.prog 109 #[.agg #[.bool b, .slice p l K]] w fun e w' => (∃ c : Int, e = .returned (.int .i64 c) ∧ Hid (c = 0 → l ≤ 512 ∧ cut ds = ds ∧ (b = true → ds ≠ []))) ∧ Below w.heap.size w w' := by
  by_cases h : 512 < l
  · exact (wcheck_big b p K l w h).mono fun e w' h => ⟨⟨11, h.1, fun h => by cases h⟩, h.2⟩
  · exact (wcheck_raw b p K l ds w hat hd hl (by omega)).mono fun e w' ⟨⟨c, h1, h2⟩, h3⟩ => ⟨⟨c, h1, fun h0 => ⟨by omega, h2.out h0⟩⟩, h3⟩
set_option maxRecDepth 100000 in
set_option maxHeartbeats 4000000 in
theorem rcheck_big (b : Bool) (p p' : Option Addr) (K K' l l' : Nat) (ds es : List Nat) (w : World) (at1 : At .u32 w p K ds) (at2 : At .u32 w p' K' es) (d1 : Dig 4294967296 ds) (hl : ds.length = l) (hl' : es.length = l') (h5 : 512 < l ∨ 512 < l') :
    Calls Tryz.prog 58 #[.agg #[.bool b, .slice p l K, .slice p' l' K']] w fun e w' => (∃ c : Int, e = .returned (.int .i64 c) ∧ Hid (c ≠ 0)) ∧ Below w.heap.size w w' := by
  obtain ⟨c2, hc2⟩ : ∃ c2 : Int, ((checkOf es : Nat) : Int) = c2 := ⟨_, rfl⟩
  have h2 : 512 < l' → c2 ≠ 0 := fun h e => by
    have e2 : checkOf es = 11 := by unfold checkOf; rw [if_pos (by omega)]
    omega
  have HD := Lib.hid (And.intro d1 (And.intro hl (And.intro hl' (And.intro h5 (And.intro hc2 h2)))))
  clear d1 hl hl' h5 hc2 h2
  have S := (St.start w).alloc 34 [.bool b, .slice p l K, .slice p' l' K'] (w.heap.size)
  try simp only [List.nil_append] at S
  replace at1 := at1.hold S.hold
  replace at2 := at2.hold S.hold
  obtain ⟨c0_0, c0_1, c0_2⟩ := S.c3 0 rfl
  go_enter Tryz.func58, Tryz.ntmps58
  go_upto_region 1 with fail
  clear c0_0 c0_1 c0_2
  generalize (w.alloc (.cells #[.bool b, .slice p l K, .slice p' l' K'] 34)) = w1 at S at1 at2 ⊢
  have HH := Hold.drew w1
  replace at1 := at1.hold HH; replace at2 := at2.hold HH
  replace S := S.drew
  refine wp_region_held_drew (S := fun W => W.cell? ⟨w.heap.size, 0, none⟩ = some (.bool b) ∧ W.cell? ⟨w.heap.size, 1, none⟩ = some (.slice p l K) ∧ W.cell? ⟨w.heap.size, 2, none⟩ = some (.slice p' l' K')) (by kernel_rfl) (S.c3 0 rfl) (fun hS => ?_)
  generalize w1.drew = w2 at S at1 at2 HH hS ⊢
  refine wpAnyH_take (i := 0) (v := ?_) (opOf rfl) (by kernel_rfl) (by kernel_rfl) (by kernel_rfl) (fun _ _ _ h => h) (Or.inl ⟨rfl, fun W hW => ?_⟩) hS ?_
  rotate_left
  · obtain ⟨hW0, hW1, hW2⟩ := hW; go_simp; try first | rfl | (rw [if_neg (by first | omega | (simp only [ByteArray.size_append]; first | omega | (have h1 : (ByteArray.mk #[47]).size = 1 := rfl; omega)))]; try rfl) | kernel_rfl
  try simp only [Act.put, List.setIfInBounds_toArray, List.set_cons_zero, List.set_cons_succ]
  refine wpAnyH_take (i := 1) (v := ?_) (opOf rfl) (by kernel_rfl) (by kernel_rfl) (by kernel_rfl) (fun _ _ _ h => h) (Or.inl ⟨rfl, fun W hW => ?_⟩) hS ?_
  rotate_left
  · obtain ⟨hW0, hW1, hW2⟩ := hW; go_simp; try first | rfl | (rw [if_neg (by first | omega | (simp only [ByteArray.size_append]; first | omega | (have h1 : (ByteArray.mk #[47]).size = 1 := rfl; omega)))]; try rfl) | kernel_rfl
  try simp only [Act.put, List.setIfInBounds_toArray, List.set_cons_zero, List.set_cons_succ]
  refine wpAnyH_take (i := 3) (v := ?_) (opOf rfl) (by kernel_rfl) (by kernel_rfl) (by kernel_rfl) (fun _ _ _ h => h) (Or.inl ⟨rfl, fun W hW => ?_⟩) hS ?_
  rotate_left
  · obtain ⟨hW0, hW1, hW2⟩ := hW; go_simp; try first | rfl | (rw [if_neg (by first | omega | (simp only [ByteArray.size_append]; first | omega | (have h1 : (ByteArray.mk #[47]).size = 1 := rfl; omega)))]; try rfl) | kernel_rfl
  try simp only [Act.put, List.setIfInBounds_toArray, List.set_cons_zero, List.set_cons_succ]
  refine wpAnyH_take (i := 4) (v := ?_) (opOf rfl) (by kernel_rfl) (by kernel_rfl) (by kernel_rfl) (fun _ _ _ h => h) (Or.inl ⟨rfl, fun W hW => ?_⟩) hS ?_
  rotate_left
  · obtain ⟨hW0, hW1, hW2⟩ := hW; go_simp; try first | rfl | (rw [if_neg (by first | omega | (simp only [ByteArray.size_append]; first | omega | (have h1 : (ByteArray.mk #[47]).size = 1 := rfl; omega)))]; try rfl) | kernel_rfl
  try simp only [Act.put, List.setIfInBounds_toArray, List.set_cons_zero, List.set_cons_succ]
  refine wpAnyH_ready (rs := [2]) (by kernel_rfl) (by simp) (AllReadyH.cons (opOf rfl) (fun KK hKK => ?_) AllReadyH.nil)
  go_simp; clear hS
  refine (S.call (wcheck_all b p K l ds _ at1 HD.out.1 HD.out.2.1)).mono ?_
  clear S
  rintro e w3 ⟨⟨c1, rfl, h1⟩, S, H⟩
  replace at1 := at1.hold H; replace at2 := at2.hold H; replace HH := HH.trans H; clear H; go_wp2_with fail
  refine ho hKK (S.c3 0 rfl) fun hS => ?_
  clear hKK KK
  refine wpAnyH_ready (rs := [5]) (by kernel_rfl) (by simp) (AllReadyH.cons (opOf rfl) (fun KK hKK => ?_) AllReadyH.nil)
  go_simp; clear hS
  refine (S.call (check_all p' K' l' es _ at2 HD.out.2.2.1 c2 HD.out.2.2.2.2.1)).mono ?_
  clear S
  rintro e w4 ⟨rfl, S, H⟩
  replace at1 := at1.hold H; replace at2 := at2.hold H; replace HH := HH.trans H; clear H; go_wp2_with fail
  refine ho hKK (S.c3 0 rfl) fun hS => ?_
  clear hKK KK
  refine wpAnyH_ready (rs := [6]) (by kernel_rfl) (by simp) (AllReadyH.cons (opOf rfl) (fun KK hKK => ?_) AllReadyH.nil)
  go_simp; clear hS
  have H := S.hnew 36 [.int .i64 c1, .int .i64 c2]
  replace S := S.al 36 [.int .i64 c1, .int .i64 c2] (w4.heap.size)
  replace at1 := at1.hold H; replace at2 := at2.hold H; replace HH := HH.trans H; clear H
  refine ho hKK (S.c3 0 rfl) fun hS => ?_
  generalize (w4.alloc (.cells #[.int .i64 c1, .int .i64 c2] 36)) = w5 at S at1 at2 HH hS ⊢
  clear hKK KK
  refine wpAnyH_ready (rs := [7]) (by kernel_rfl) (by simp) (AllReadyH.cons (opOf rfl) (fun KK hKK => ?_) AllReadyH.nil)
  go_simp; clear hS
  refine (S.call (or_pair S 1 rfl)).mono ?_
  clear S
  rintro e w6 ⟨⟨r, rfl, hr⟩, S, H⟩
  replace at1 := at1.hold H; replace at2 := at2.hold H; replace HH := HH.trans H; clear H; go_wp2_with fail
  refine ho hKK (S.c3 0 rfl) fun hS => ?_
  clear hKK KK
  refine wpAnyH_ready (rs := [8]) (by kernel_rfl) (by simp) (AllReadyH.cons (opOf rfl) (fun KK hKK => ?_) AllReadyH.nil)
  go_simp
  refine ho hKK hS fun hS => ?_
  clear hKK KK
  refine wpAnyH_done (by kernel_rfl) ?_ _
  clear hS HH
  have h0 : r ≠ 0 := fun e => by
    obtain ⟨e1, e2⟩ := hr.out e
    rcases HD.out.2.2.2.1 with h | h
    · have := (h1.out e1).1; omega
    · exact HD.out.2.2.2.2.2 h e2
  have h0' : (r != 0) = true := by simpa using h0
  have H0 := Lib.hid h0
  clear h0 hr h1; obtain ⟨c0_0, c0_1, c0_2⟩ := S.c3 0 rfl; go_wp2_with fail
  exact bodyPost_ret (v := .int .i64 r) (by simp [results, Tryz.f58, go_sem]) rfl (⟨⟨r, rfl, H0⟩, S.below⟩)
theorem rcheck_all (b : Bool) (p p' : Option Addr) (K K' l l' : Nat) (ds es : List Nat) (w : World) (at1 : At .u32 w p K ds) (at2 : At .u32 w p' K' es) (d1 : Dig 4294967296 ds) (d2 : Dig 4294967296 es) (hl : ds.length = l) (hl' : es.length = l') :
    Calls Tryz.prog 58 #[.agg #[.bool b, .slice p l K, .slice p' l' K']] w fun e w' => (∃ c : Int, e = .returned (.int .i64 c) ∧ Hid (c = 0 → ValidR b ds es)) ∧ Below w.heap.size w w' := by
  by_cases h : 512 < l ∨ 512 < l'
  · exact (rcheck_big b p p' K K' l l' ds es w at1 at2 d1 hl hl' h).mono fun e w' ⟨⟨c, h1, h2⟩, h3⟩ => ⟨⟨c, h1, fun h0 => absurd h0 h2.out⟩, h3⟩
  · exact rcheck_raw b p p' K K' l l' ds es w at1 at2 d1 d2 hl hl' (by omega) (by omega)
def RawLL (w : World) (g : Nat) (ls : List (Value × List RawQ)) : Prop := g < w.heap.size ∧ ∀ (j : Nat) v xs, ls[j]? = some (v, xs) → w.cell? ⟨g, j, none⟩ = some v ∧ Raws w v xs
def FitL (k m : Nat) (xs : List RawQ) : Prop := xs.length = m ∧ m ≤ 16 ∧ ∀ x, x ∈ xs → x.Tried k
set_option maxRecDepth 100000 in
set_option maxHeartbeats 8000000 in
theorem vfit_any (g n : Nat) (v0 : Value) (xs0 : List RawQ) (ls : List (Value × List RawQ)) (w : World) (h : RawLL w g ((v0, xs0) :: ls)) (hn : ls.length + 1 = n) (hn9 : n ≤ 1000) :
    Calls Tryz.prog 33 #[.slice (some ⟨g, 0, none⟩) n n] w fun e w' => (∃ ok : Bool, e = .returned (.bool ok) ∧ Hid (ok = true → ∀ (j : Nat) v xs, ((v0, xs0) :: ls)[j]? = some (v, xs) → FitL 5 xs0.length xs)) ∧ Below w.heap.size w w' := by
  obtain ⟨f0, f1⟩ := h.2 0 v0 xs0 rfl
  obtain ⟨q0, d0, rfl⟩ := f1.form
  obtain ⟨m, hm⟩ : ∃ m, xs0.length = m := ⟨_, rfl⟩
  rw [hm] at f0 f1 h ⊢
  have HI := Lib.hid (And.intro h (And.intro hn (And.intro f0 hm)))
  clear h hn f0 f1 hm
  have S := St.start w
  go_enter Tryz.func33, Tryz.ntmps33
  go_wp2_with fail
  go_loopw [9] (fun si wr => ∃ i : Nat, i ≤ n ∧ si = .int .i64 i ∧ Hid (∀ (j : Nat) v xs, j < i → ((Value.slice q0 m d0, xs0) :: ls)[j]? = some (v, xs) → FitL 5 m xs) ∧ St w wr []) (fun si _ => n - (intOf si).toNat)
  case atStart => exact ⟨0, by omega, rfl, fun j v xs h => by omega, S⟩
  case round =>
    clear S
    obtain ⟨i, hi, rfl, hz, S⟩ := hrel
    by_cases hlt : i < n
    · have hq : ((Value.slice q0 m d0, xs0) :: ls)[i]? = some (((Value.slice q0 m d0, xs0) :: ls)[i]'(by simp; have := HI.out.2.1; omega)) := List.getElem?_eq_getElem _
      generalize ((Value.slice q0 m d0, xs0) :: ls)[i]'(by simp; have := HI.out.2.1; omega) = r at hq
      obtain ⟨v, xs⟩ := r
      obtain ⟨a1, hR⟩ := HI.out.1.2 i v xs hq
      obtain ⟨q1, d1, rfl⟩ := hR.form
      obtain ⟨l, hl⟩ : ∃ m, xs.length = m := ⟨_, rfl⟩
      rw [hl] at a1 hR hq
      replace a1 := (S.below.cell (p := ⟨g, i, none⟩) HI.out.1.1).trans a1
      have a0 := (S.below.cell (p := ⟨g, 0, none⟩) HI.out.1.1).trans HI.out.2.2.1
      have hki : (i : Int) < ((n : Nat) : Int) := by omega
      have hi9 : (i : Int) ≤ 1000 := by omega
      have HQ := Lib.hid (And.intro hlt (And.intro hq (And.intro hl hR)))
      clear hlt hi hq hl hR
      by_cases hlm : l = m
      rotate_left
      · have e1 : (((l : Nat) : Int) == ((m : Nat) : Int)) = false := by simp; omega
        have e2 : (((l : Nat) : Int) != ((m : Nat) : Int)) = true := by simp; omega
        go_wp2_with fail
        exact bodyPost_ret (v := .bool false) (by simp [results, Tryz.f33, go_sem]) rfl (by first | exact ⟨⟨false, rfl, fun h => by cases h⟩, S.below⟩ | exact ⟨.inl ⟨rfl, Lib.hid trivial⟩, S.below⟩ | exact ⟨.inl rfl, S.below⟩)
      subst hlm
      have e1 : (((l : Nat) : Int) == ((l : Nat) : Int)) = true := by simp
      have e2 : (((l : Nat) : Int) != ((l : Nat) : Int)) = false := by simp
      by_cases h16 : 16 < l
      · have h16' : (16 : Int) < ((l : Nat) : Int) := by omega
        go_wp2_with fail
        exact bodyPost_ret (v := .bool false) (by simp [results, Tryz.f33, go_sem]) rfl (by first | exact ⟨⟨false, rfl, fun h => by cases h⟩, S.below⟩ | exact ⟨.inl ⟨rfl, Lib.hid trivial⟩, S.below⟩ | exact ⟨.inl rfl, S.below⟩)
      have h16' : ¬ (16 : Int) < ((l : Nat) : Int) := by omega
      have h17 : ((l : Nat) : Int) ≤ 16 := by omega
      have HL := Lib.hid h16
      clear h16; go_wp2_with fail; clear a0 a1
      go_loopw [27] (fun si wr => ∃ k : Nat, k ≤ l ∧ si = .int .i64 k ∧ Hid (∀ (j : Nat) x, j < k → xs[j]? = some x → x.Tried 5) ∧ St w wr []) (fun si _ => l - (intOf si).toNat)
      case atStart => exact ⟨0, by omega, rfl, fun j x h => by omega, S⟩
      case round =>
        clear S
        obtain ⟨k, hk, rfl, hy, S⟩ := hrel
        by_cases hkl : k < l
        · obtain ⟨g2, off, b1, p1, l1, K1, p2, l2, K2, es1, es2, rfl, hg, a0, a1, a2, hx, hl1, hl2, at1, at2, dd1, dd2⟩ := HQ.out.2.2.2.get hkl
          replace a0 := (S.below.cell (p := ⟨g2, off + k * 3, none⟩) hg).trans a0
          replace a1 := (S.below.cell (p := ⟨g2, off + k * 3 + 1, none⟩) hg).trans a1
          replace a2 := (S.below.cell (p := ⟨g2, off + k * 3 + 2, none⟩) hg).trans a2
          replace at1 := at1.below S.below (Nat.le_refl _)
          replace at2 := at2.below S.below (Nat.le_refl _)
          have hki2 : (k : Int) < ((l : Nat) : Int) := by omega
          have HX := Lib.hid (And.intro hx (And.intro hl1 (And.intro hl2 hkl)))
          clear hx hl1 hl2 hg hkl hk
          have H := S.hnew 34 [.bool b1, .slice p1 l1 K1, .slice p2 l2 K2]
          replace S := S.al 34 [.bool b1, .slice p1 l1 K1, .slice p2 l2 K2] (wr.heap.size)
          replace at1 := at1.hold H; replace at2 := at2.hold H
          clear H; obtain ⟨c0_0, c0_1, c0_2⟩ := S.c3 0 rfl
          by_cases h31 : 5 < l1
          · have h31' : (5 : Int) < ((l1 : Nat) : Int) := by omega
            go_wp2_with fail
            exact bodyPost_ret (v := .bool false) (by simp [results, Tryz.f33, go_sem]) rfl (by first | exact ⟨⟨false, rfl, fun h => by cases h⟩, S.below⟩ | exact ⟨.inl ⟨rfl, Lib.hid trivial⟩, S.below⟩ | exact ⟨.inl rfl, S.below⟩)
          have h31' : ¬ (5 : Int) < ((l1 : Nat) : Int) := by omega
          by_cases h32 : 5 < l2
          · have h32' : (5 : Int) < ((l2 : Nat) : Int) := by omega
            go_wp2_with fail
            exact bodyPost_ret (v := .bool false) (by simp [results, Tryz.f33, go_sem]) rfl (by first | exact ⟨⟨false, rfl, fun h => by cases h⟩, S.below⟩ | exact ⟨.inl ⟨rfl, Lib.hid trivial⟩, S.below⟩ | exact ⟨.inl rfl, S.below⟩)
          have h32' : ¬ (5 : Int) < ((l2 : Nat) : Int) := by omega
          have H5 := Lib.hid (And.intro h31 h32)
          clear h31 h32; go_wp2_with fail; clear c0_0 c0_1 c0_2
          refine (S.call (rcheck_all b1 p1 p2 K1 K2 l1 l2 es1 es2 _ at1 at2 dd1 dd2 HX.out.2.1 HX.out.2.2.1)).mono ?_
          clear S
          rintro e w7 ⟨⟨c, rfl, hc⟩, S, H⟩
          clear H at1 at2 dd1 dd2 a0 a1 a2
          by_cases h0 : c = 0
          rotate_left
          · have h0' : (c != 0) = true := by simpa using h0
            clear hc; go_wp2_with fail
            exact bodyPost_ret (v := .bool false) (by simp [results, Tryz.f33, go_sem]) rfl (by first | exact ⟨⟨false, rfl, fun h => by cases h⟩, S.below⟩ | exact ⟨.inl ⟨rfl, Lib.hid trivial⟩, S.below⟩ | exact ⟨.inl rfl, S.below⟩)
          have h0' : (c != 0) = false := by rw [h0]; rfl
          have HT3 : Hid (TriedR 5 b1 es1 es2) := ⟨by have := HX.out.2.1; have := H5.out.1; omega, by have := HX.out.2.2.1; have := H5.out.2; omega, hc.out h0⟩
          clear h0 hc
          replace S := S.take 0 (L := []) rfl
          have hk16 : (k : Int) ≤ 16 := by omega
          go_wp2_with fail
          go_roundw
          case rel =>
            refine ⟨k + 1, by have := HX.out.2.2.2; omega, by go_num, fun j x hj hx => ?_, S⟩
            by_cases e : j = k
            · subst e
              rw [HX.out.1] at hx
              cases hx
              exact HT3.out
            · exact hy.out j x (by omega) hx
          case measure => have := HX.out.2.2.2; simp [intOf]; omega
        · have hki2 : ¬ (k : Int) < ((l : Nat) : Int) := by omega
          have hkk : k = l := by omega
          subst hkk
          clear hkl hk; go_wp2_with fail
          go_roundw
          case rel =>
            refine ⟨i + 1, by have := HQ.out.1; omega, by go_num, fun j v' ys hj hv => ?_, S⟩
            by_cases e : j = i
            · subst e
              rw [HQ.out.2.1] at hv
              cases hv
              refine ⟨HQ.out.2.2.1, by have := HL.out; omega, fun x hx => ?_⟩
              obtain ⟨t, ht⟩ := List.getElem?_of_mem hx
              have htl := (List.getElem?_eq_some_iff.1 ht).1
              have := HQ.out.2.2.1
              exact hy.out t x (by omega) ht
            · exact hz.out j v' ys (by omega) hv
          case measure => have := HQ.out.1; simp [intOf]; omega
    · have hki : ¬ (i : Int) < ((n : Nat) : Int) := by omega
      clear hlt
      have HZ : Hid (∀ (j : Nat) v xs, ((Value.slice q0 m d0, xs0) :: ls)[j]? = some (v, xs) → FitL 5 m xs) := fun j v xs hj => hz.out j v xs (by have := (List.getElem?_eq_some_iff.1 hj).1; have := HI.out.2.1; simp at *; omega) hj
      clear hz hi; go_wp2_with fail
      exact bodyPost_ret (v := .bool true) (by simp [results, Tryz.f33, go_sem]) rfl (by first | exact ⟨⟨true, rfl, fun _ => HZ.out⟩, S.below⟩ | exact ⟨.inr rfl, S.below⟩ | exact ⟨.inr ⟨rfl, HZ⟩, S.below⟩)
theorem FitL.list {k m : Nat} {xs : List RawQ} {w : World} {v : Value} (h : FitL k m xs) (hR : Raws w v xs) : ∃ qs, Rats w v qs ∧ qs.length = m ∧ (∀ q, q ∈ qs → RB q k) ∧ AllQ k xs qs := by
  obtain ⟨qs, hq⟩ := allQ_ex (k := k) (xs := xs) fun x hx => ⟨h.2.2 x hx, hR.dig x hx⟩
  exact ⟨qs, hR.rats hq, by rw [← hq.1]; exact h.1, hq.rb, hq⟩
end Go.Proofs.YtcfgefbkeeedgaaGreatDoor
