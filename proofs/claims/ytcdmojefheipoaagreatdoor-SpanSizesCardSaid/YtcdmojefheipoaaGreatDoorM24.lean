/-
  What the statement stands on.
-/
import Derived.Test.YtcdmojefheipoaaGreatDoorM18
import Derived.Test.YtcdmojefheipoaaGreatDoorM22
namespace Go.Proofs.YtcdmojefheipoaaGreatDoor
open Go.RowKit
theorem divInt_le (n d : Int) (h : d ≠ 0) : (Rat.divInt n d).num.natAbs ≤ n.natAbs ∧ (Rat.divInt n d).den ≤ d.natAbs := by
  obtain ⟨h1, h2, h3, h4⟩ := make_parts n d h
  refine ⟨?_, by rw [h2]; exact Nat.div_le_self _ _⟩
  rcases (show 0 < d ∨ d < 0 by omega) with h0 | h0
  · rw [h3 h0]; exact Int.natAbs_ediv_le_natAbs _ _
  · rw [h4 h0, Int.natAbs_neg]; exact Int.natAbs_ediv_le_natAbs _ _
theorem rb_divInt {n d : Int} {k : Nat} (h : d ≠ 0) (hn : n.natAbs < NB k) (hd : d.natAbs < NB k) : RB (Rat.divInt n d) k :=
  ⟨Nat.lt_of_le_of_lt (divInt_le n d h).1 hn, Nat.lt_of_le_of_lt (divInt_le n d h).2 hd⟩
theorem add_divInt (x y : Rat) : x + y = Rat.divInt (x.num * y.den + y.num * x.den) ((x.den * y.den : Nat) : Int) := by rw [Rat.add_def', Rat.divInt_ofNat]
theorem mul_divInt (x y : Rat) : x * y = Rat.divInt (x.num * y.num) ((x.den * y.den : Nat) : Int) := by rw [Rat.mul_def', Rat.divInt_ofNat]
theorem rb_add {x y : Rat} {a b : Nat} (h : RB x a) (k : RB y b) : RB (x + y) (a + b + 1) := by
  obtain ⟨h1, h2, h3, _⟩ := rbz h k
  rw [add_divInt]
  refine rb_divInt (by have := Nat.mul_pos x.den_pos y.den_pos; omega) (nbz_add h1 h2) (nb_mono h3 (by omega))
theorem rb_mul {x y : Rat} {a b : Nat} (h : RB x a) (k : RB y b) : RB (x * y) (a + b) := by
  obtain ⟨_, _, h3, h4⟩ := rbz h k
  rw [mul_divInt]
  exact rb_divInt (by have := Nat.mul_pos x.den_pos y.den_pos; omega) h4 h3
theorem rb_neg {x : Rat} {a : Nat} (h : RB x a) : RB (-x) a := ⟨by rw [Rat.neg_num, Int.natAbs_neg]; exact h.1, h.2⟩
theorem rb_sub {x y : Rat} {a b : Nat} (h : RB x a) (k : RB y b) : RB (x - y) (a + b + 1) := by
  rw [Rat.sub_eq_add_neg]
  exact rb_add h (rb_neg k)
set_option maxRecDepth 100000 in
set_option maxHeartbeats 2000000 in
theorem over_any {va vb : Value} {n d : Int} {w : World} (ha : IsInt w va n) (hb : IsInt w vb d) (hn : n.natAbs < maxN) (hd : d.natAbs < maxN) (h0 : d ≠ 0) (q : Rat) (hq : q = Rat.divInt n d) :
    Calls Tryz.prog 77 #[va, vb, .int .i64 0] w fun e w' => (∃ u, e = .returned (.tuple #[u, .int .i64 0]) ∧ IsRat w' u q) ∧ Below w.heap.size w w' := by
  obtain ⟨p1, l1, K1, rfl, n1⟩ := ha
  obtain ⟨p2, l2, K2, rfl, n2⟩ := hb
  obtain ⟨b1, hb1⟩ : ∃ b1, negB n = b1 := ⟨_, rfl⟩
  obtain ⟨b2, hb2⟩ : ∃ b2, negB d = b2 := ⟨_, rfl⟩
  rw [hb1, hb2]
  have HD := Lib.hid (And.intro hb1 (And.intro hb2 (And.intro hn (And.intro hd (And.intro h0 hq)))))
  clear hb1 hb2 hn hd h0 hq
  have S := (((St.start w).alloc 25 [.bool b1, .slice p1 l1 K1] (w.heap.size)).alloc 25 [.bool b2, .slice p2 l2 K2] (w.heap.size + 1)).alloc 34 [.bool false, .slice none 0 0, .slice none 0 0] (w.heap.size + 1 + 1)
  try simp only [List.cons_append, List.nil_append] at S
  replace n1 := n1.hold S.hold; replace n2 := n2.hold S.hold
  have c0_0 := S.c 0 0 rfl rfl; have c0_1 := S.c 0 1 rfl rfl; have c1_0 := S.c 1 0 rfl rfl; have c1_1 := S.c 1 1 rfl rfl; obtain ⟨c2_0, c2_1, c2_2⟩ := S.c3 2 rfl
  go_enter Tryz.func77, Tryz.ntmps77
  go_wp2_with fail; clear c0_0 c0_1 c1_0 c1_1 c2_0 c2_1 c2_2
  refine (S.call (rmake_any ⟨_, _, _, by rw [HD.out.1], n1⟩ ⟨_, _, _, by rw [HD.out.2.1], n2⟩ HD.out.2.2.1 HD.out.2.2.2.1 HD.out.2.2.2.2.1 q HD.out.2.2.2.2.2)).mono ?_
  clear S
  rintro e w1 ⟨⟨_, rfl, b, p, l, K, q', j, J, rfl, hb, nn, dd⟩, S, H⟩
  replace n1 := n1.hold H; replace n2 := n2.hold H
  clear H; have c0_0 := S.c 0 0 rfl rfl; have c0_1 := S.c 0 1 rfl rfl; have c1_0 := S.c 1 0 rfl rfl; have c1_1 := S.c 1 1 rfl rfl; obtain ⟨c2_0, c2_1, c2_2⟩ := S.c3 2 rfl
  obtain ⟨f2_0, f2_1, f2_2⟩ := S.f3 2 rfl
  have HP := S.putq 2 (.bool b) (.slice p l K) (.slice q' j J) rfl rfl; have H := HP.2; replace S := HP.1; clear HP
  refine iv4 H n1 n2 nn dd ?_; clear n1 n2 nn dd; intro n1 n2 nn dd
  clear H; go_wp2_with fail; obtain ⟨d2_0, d2_1, d2_2⟩ := S.c3 2 rfl
  exact bodyPost_ret (v := .tuple #[.agg #[.bool b, .slice p l K, .slice q' j J], .int .i64 0]) (by simp [results, Tryz.f77, go_sem, d2_0, d2_1, d2_2]) rfl (⟨⟨_, rfl, b, p, l, K, q', j, J, rfl, hb, nn, dd⟩, S.below⟩)
set_option maxRecDepth 100000 in
set_option maxHeartbeats 4000000 in
theorem rmul_any {va vb : Value} {x y : Rat} {w : World} (ha : IsRat w va x) (hb : IsRat w vb y) {k1 k2 : Nat} (hx : RB x k1) (hy : RB y k2) (hk : k1 + k2 ≤ 511) (q : Rat) (hq : x * y = q) :
    Calls Tryz.prog 22 #[va, vb] w fun e w' => (∃ u, e = .returned (.tuple #[u, .int .i64 0]) ∧ IsRat w' u q) ∧ Below w.heap.size w w' := by
  obtain ⟨b1, p1, l1, K1, q1, j1, J1, rfl, hb1, n1, d1⟩ := ha
  obtain ⟨b2, p2, l2, K2, q2, j2, J2, rfl, hb2, n2, d2⟩ := hb
  obtain ⟨Z, hZ⟩ : ∃ Z, x.num * y.num = Z := ⟨_, rfl⟩
  obtain ⟨D, hD⟩ : ∃ D, ((x.den * y.den : Nat) : Int) = D := ⟨_, rfl⟩
  have hb := rbz hx hy
  rw [hZ] at hb
  have hD0 : D ≠ 0 := by rw [← hD]; have := Nat.mul_pos x.den_pos y.den_pos; omega
  have hDb : D.natAbs < maxN := by rw [← hD, Int.natAbs_natCast]; exact nb_max hb.2.2.1 (by omega)
  have hdd : (x.den : Int) * (y.den : Int) = D := by rw [← hD, Int.natCast_mul]
  have hq2 : q = Rat.divInt Z D := by rw [← hq, mul_divInt, hZ, hD]
  have HX := Lib.hid (And.intro (rb_max hx (by omega)) (rb_max hy (by omega)))
  have HD := Lib.hid (And.intro hZ (And.intro hdd (And.intro hq2 hD0)))
  have HB := Lib.hid (And.intro (nb_max hb.2.2.2 (by omega)) hDb)
  clear hZ hD hb hD0 hDb hdd hq hq2 hx hy hk
  have S := (((St.start w).alloc 34 [.bool b1, .slice p1 l1 K1, .slice q1 j1 J1] (w.heap.size)).alloc 34 [.bool b2, .slice p2 l2 K2, .slice q2 j2 J2] (w.heap.size + 1)).alloc 34 [.bool false, .slice none 0 0, .slice none 0 0] (w.heap.size + 1 + 1)
  try simp only [List.cons_append, List.nil_append] at S
  refine iv4 S.hold n1 d1 n2 d2 ?_; clear n1 d1 n2 d2; intro n1 d1 n2 d2
  obtain ⟨c0_0, c0_1, c0_2⟩ := S.c3 0 rfl; obtain ⟨c1_0, c1_1, c1_2⟩ := S.c3 1 rfl; obtain ⟨c2_0, c2_1, c2_2⟩ := S.c3 2 rfl
  go_enter Tryz.func22, Tryz.ntmps22
  go_wp2_with fail; clear c0_0 c0_1 c0_2 c1_0 c1_1 c1_2 c2_0 c2_1 c2_2
  refine (S.call (wmul_to ⟨_, _, _, by rw [hb1.out], n1⟩ ⟨_, _, _, by rw [hb2.out], n2⟩ HX.out.1.1 HX.out.2.1 Z HD.out.1 HB.out.1)).mono ?_
  clear S
  rintro e w1 ⟨⟨_, rfl, pz, lz, Kz, rfl, nz⟩, S, H⟩
  refine iv4 H n1 d1 n2 d2 ?_; clear n1 d1 n2 d2; intro n1 d1 n2 d2
  clear H; obtain ⟨c0_0, c0_1, c0_2⟩ := S.c3 0 rfl; obtain ⟨c1_0, c1_1, c1_2⟩ := S.c3 1 rfl; obtain ⟨c2_0, c2_1, c2_2⟩ := S.c3 2 rfl
  have H := S.hnew 25 [.bool (negB Z), .slice pz lz Kz]
  replace S := S.al 25 [.bool (negB Z), .slice pz lz Kz] (w1.heap.size)
  refine iv5 H n1 d1 n2 d2 nz ?_; clear n1 d1 n2 d2 nz; intro n1 d1 n2 d2 nz
  clear H; clear c0_0 c0_1 c0_2 c1_0 c1_1 c1_2 c2_0 c2_1 c2_2; obtain ⟨c0_0, c0_1, c0_2⟩ := S.c3 0 rfl; obtain ⟨c1_0, c1_1, c1_2⟩ := S.c3 1 rfl; obtain ⟨c2_0, c2_1, c2_2⟩ := S.c3 2 rfl; have c3_0 := S.c 3 0 rfl rfl; have c3_1 := S.c 3 1 rfl rfl
  go_upto_region 2 with fail
  clear c0_0 c0_1 c0_2 c1_0 c1_1 c1_2 c2_0 c2_1 c2_2 c3_0 c3_1
  generalize (w1.alloc (.cells #[.bool (negB Z), .slice pz lz Kz] 25)) = w2 at S n1 d1 n2 d2 nz ⊢
  go_cut [8, 9] (fun s8 s9 wx => ∃ g8 pd ld Kd, s8 = .pointer (some ⟨g8, 0, none⟩) ∧ s9 = .int .i64 0 ∧ St w wx [(w.heap.size, 34, [.bool b1, .slice p1 l1 K1, .slice q1 j1 J1]), (w.heap.size + 1, 34, [.bool b2, .slice p2 l2 K2, .slice q2 j2 J2]), (w.heap.size + 1 + 1, 34, [.bool false, .slice none 0 0, .slice none 0 0]), (w1.heap.size, 25, [.bool (negB Z), .slice pz lz Kz]), (g8, 25, [.bool (negB D), .slice pd ld Kd])] ∧ IsNat wx (.slice pd ld Kd) D.natAbs ∧ Hold w2 wx)
  case first =>
    have HH := Hold.drew w2
    refine iv5 HH n1 d1 n2 d2 nz ?_; clear n1 d1 n2 d2 nz; intro n1 d1 n2 d2 nz
    replace S := S.drew
    refine wp_region_held_drew (S := fun W => W.cell? ⟨w.heap.size, 2, none⟩ = some (.slice q1 j1 J1) ∧ W.cell? ⟨w.heap.size + 1, 2, none⟩ = some (.slice q2 j2 J2)) (by kernel_rfl) ⟨(S.c 0 2 rfl rfl), (S.c 1 2 rfl rfl)⟩ (fun hS => ?_)
    generalize w2.drew = w3 at S n1 d1 n2 d2 nz HH hS ⊢
    refine tk 0 hS ?_
    refine tk 1 hS ?_
    refine tk 3 hS ?_
    refine tk 4 hS ?_
    refine wpAnyH_ready (rs := [2, 10]) (by kernel_rfl) (by simp) (AllReadyH.cons (opOf rfl) (fun KK hKK => ?_) (AllReadyH.cons (opOf rfl) (fun KK hKK => ?_) AllReadyH.nil))
    ·
      go_simp; clear hS
      refine (S.call (wnat_any d1 HX.out.1.2 (x.den : Int) rfl)).mono ?_
      clear S
      rintro e w4 ⟨⟨_, rfl, pa, la, Ka, rfl, na⟩, S, H⟩
      refine iv5 H n1 d1 n2 d2 nz ?_; clear n1 d1 n2 d2 nz; intro n1 d1 n2 d2 nz; replace HH := HH.trans H; clear H
      go_wp2_with fail
      refine ho hKK ⟨(S.c 0 2 rfl rfl), (S.c 1 2 rfl rfl)⟩ fun hS => ?_
      clear hKK KK
      refine wpAnyH_ready (rs := [5, 10]) (by kernel_rfl) (by simp) (AllReadyH.cons (opOf rfl) (fun KK hKK => ?_) (AllReadyH.cons (opOf rfl) (fun KK hKK => ?_) AllReadyH.nil))
      ·
        go_simp; clear hS
        refine (S.call (wnat_any d2 HX.out.2.2 (y.den : Int) rfl)).mono ?_
        clear S
        rintro e w5 ⟨⟨_, rfl, pb, lb, Kb, rfl, nb⟩, S, H⟩
        refine iv6 H n1 d1 n2 d2 nz na ?_; clear n1 d1 n2 d2 nz na; intro n1 d1 n2 d2 nz na; replace HH := HH.trans H; clear H
        go_wp2_with fail
        refine ho hKK ⟨(S.c 0 2 rfl rfl), (S.c 1 2 rfl rfl)⟩ fun hS => ?_
        clear hKK KK
        refine wpAnyH_ready (rs := [6, 10]) (by kernel_rfl) (by simp) (AllReadyH.cons (opOf rfl) (fun KK hKK => ?_) (AllReadyH.cons (opOf rfl) (fun KK hKK => ?_) AllReadyH.nil))
        ·
          go_simp; clear hS
          refine (S.call (wmul_to ⟨_, _, _, rfl, na⟩ ⟨_, _, _, rfl, nb⟩ HX.out.1.2 HX.out.2.2 D HD.out.2.1 HB.out.2)).mono ?_
          clear S
          rintro e w6 ⟨⟨_, rfl, pd, ld, Kd, rfl, nd⟩, S, H⟩
          refine iv7 H n1 d1 n2 d2 nz na nb ?_; clear n1 d1 n2 d2 nz na nb; intro n1 d1 n2 d2 nz na nb; replace HH := HH.trans H; clear H
          go_wp2_with fail
          refine ho hKK ⟨(S.c 0 2 rfl rfl), (S.c 1 2 rfl rfl)⟩ fun hS => ?_
          clear hKK KK
          refine tk 7 hS ?_
          refine tk 8 hS ?_
          refine tk 9 hS ?_
          refine rd 10 fun KK hKK => ?_
          go_simp; clear hS
          have H := S.hnew 25 [.bool false, .slice none 0 0]
          replace S := S.al 25 [.bool false, .slice none 0 0] (w6.heap.size)
          refine iv8 H n1 d1 n2 d2 nz na nb nd ?_; clear n1 d1 n2 d2 nz na nb nd; intro n1 d1 n2 d2 nz na nb nd; replace HH := HH.trans H; clear H
          refine ho hKK ⟨(S.c 0 2 rfl rfl), (S.c 1 2 rfl rfl)⟩ fun hS => ?_
          generalize (w6.alloc (.cells #[.bool false, .slice none 0 0] 25)) = w7 at S n1 d1 n2 d2 nz na nb nd HH hS ⊢
          clear hKK KK
          refine rd 11 fun KK hKK => ?_
          have c0 := S.c 4 0 rfl rfl; have f0 := S.f 4 0 rfl; have c1 := S.c 4 1 rfl rfl; have f1 := S.f 4 1 rfl; go_simp; clear hS c0 f0 c1 f1
          have H := S.hset 4 0 (.bool (negB D)) rfl rfl (by intro q n e; cases e)
          replace S := S.set 4 0 (.bool (negB D)) rfl
          refine iv8 H n1 d1 n2 d2 nz na nb nd ?_; clear n1 d1 n2 d2 nz na nb nd; intro n1 d1 n2 d2 nz na nb nd; replace HH := HH.trans H; clear H
          have H := S.hset 4 1 (.slice pd ld Kd) rfl rfl (by intro q n e; cases e)
          replace S := S.set 4 1 (.slice pd ld Kd) rfl
          refine iv8 H n1 d1 n2 d2 nz na nb nd ?_; clear n1 d1 n2 d2 nz na nb nd; intro n1 d1 n2 d2 nz na nb nd; replace HH := HH.trans H; clear H
          refine ho hKK ⟨(S.c 0 2 rfl rfl), (S.c 1 2 rfl rfl)⟩ fun hS => ?_
          generalize ((w7.setCell ⟨w6.heap.size, 0, none⟩ (.bool (negB D))).setCell ⟨w6.heap.size, 1, none⟩ (.slice pd ld Kd)) = w8 at S n1 d1 n2 d2 nz na nb nd HH hS ⊢
          clear hKK KK
          refine rd 12 fun KK hKK => ?_
          go_simp
          refine ho hKK hS fun hS => ?_
          clear hKK KK
          refine wpAnyH_done (by kernel_rfl) ?_ _
          go_wp2_with fail
          go_meet
          case rel => exact ⟨w6.heap.size, pd, ld, Kd, rfl, rfl, S, nd, HH⟩
        ·
          go_simp; clear hS
          have H := S.hnew 25 [.bool false, .slice none 0 0]
          replace S := S.al 25 [.bool false, .slice none 0 0] (w5.heap.size)
          refine iv7 H n1 d1 n2 d2 nz na nb ?_; clear n1 d1 n2 d2 nz na nb; intro n1 d1 n2 d2 nz na nb; replace HH := HH.trans H; clear H
          refine ho hKK ⟨(S.c 0 2 rfl rfl), (S.c 1 2 rfl rfl)⟩ fun hS => ?_
          generalize (w5.alloc (.cells #[.bool false, .slice none 0 0] 25)) = w9 at S n1 d1 n2 d2 nz na nb HH hS ⊢
          clear hKK KK
          refine rd 6 fun KK hKK => ?_
          go_simp; clear hS
          refine (S.call (wmul_to ⟨_, _, _, rfl, na⟩ ⟨_, _, _, rfl, nb⟩ HX.out.1.2 HX.out.2.2 D HD.out.2.1 HB.out.2)).mono ?_
          clear S
          rintro e w10 ⟨⟨_, rfl, pd, ld, Kd, rfl, nd⟩, S, H⟩
          refine iv7 H n1 d1 n2 d2 nz na nb ?_; clear n1 d1 n2 d2 nz na nb; intro n1 d1 n2 d2 nz na nb; replace HH := HH.trans H; clear H
          go_wp2_with fail
          refine ho hKK ⟨(S.c 0 2 rfl rfl), (S.c 1 2 rfl rfl)⟩ fun hS => ?_
          clear hKK KK
          refine tk 7 hS ?_
          refine tk 8 hS ?_
          refine tk 9 hS ?_
          refine rd 11 fun KK hKK => ?_
          have c0 := S.c 4 0 rfl rfl; have f0 := S.f 4 0 rfl; have c1 := S.c 4 1 rfl rfl; have f1 := S.f 4 1 rfl; go_simp; clear hS c0 f0 c1 f1
          have H := S.hset 4 0 (.bool (negB D)) rfl rfl (by intro q n e; cases e)
          replace S := S.set 4 0 (.bool (negB D)) rfl
          refine iv8 H n1 d1 n2 d2 nz na nb nd ?_; clear n1 d1 n2 d2 nz na nb nd; intro n1 d1 n2 d2 nz na nb nd; replace HH := HH.trans H; clear H
          have H := S.hset 4 1 (.slice pd ld Kd) rfl rfl (by intro q n e; cases e)
          replace S := S.set 4 1 (.slice pd ld Kd) rfl
          refine iv8 H n1 d1 n2 d2 nz na nb nd ?_; clear n1 d1 n2 d2 nz na nb nd; intro n1 d1 n2 d2 nz na nb nd; replace HH := HH.trans H; clear H
          refine ho hKK ⟨(S.c 0 2 rfl rfl), (S.c 1 2 rfl rfl)⟩ fun hS => ?_
          generalize ((w10.setCell ⟨w5.heap.size, 0, none⟩ (.bool (negB D))).setCell ⟨w5.heap.size, 1, none⟩ (.slice pd ld Kd)) = w11 at S n1 d1 n2 d2 nz na nb nd HH hS ⊢
          clear hKK KK
          refine rd 12 fun KK hKK => ?_
          go_simp
          refine ho hKK hS fun hS => ?_
          clear hKK KK
          refine wpAnyH_done (by kernel_rfl) ?_ _
          go_wp2_with fail
          go_meet
          case rel => exact ⟨w5.heap.size, pd, ld, Kd, rfl, rfl, S, nd, HH⟩
      ·
        go_simp; clear hS
        have H := S.hnew 25 [.bool false, .slice none 0 0]
        replace S := S.al 25 [.bool false, .slice none 0 0] (w4.heap.size)
        refine iv6 H n1 d1 n2 d2 nz na ?_; clear n1 d1 n2 d2 nz na; intro n1 d1 n2 d2 nz na; replace HH := HH.trans H; clear H
        refine ho hKK ⟨(S.c 0 2 rfl rfl), (S.c 1 2 rfl rfl)⟩ fun hS => ?_
        generalize (w4.alloc (.cells #[.bool false, .slice none 0 0] 25)) = w12 at S n1 d1 n2 d2 nz na HH hS ⊢
        clear hKK KK
        refine rd 5 fun KK hKK => ?_
        go_simp; clear hS
        refine (S.call (wnat_any d2 HX.out.2.2 (y.den : Int) rfl)).mono ?_
        clear S
        rintro e w13 ⟨⟨_, rfl, pb, lb, Kb, rfl, nb⟩, S, H⟩
        refine iv6 H n1 d1 n2 d2 nz na ?_; clear n1 d1 n2 d2 nz na; intro n1 d1 n2 d2 nz na; replace HH := HH.trans H; clear H
        go_wp2_with fail
        refine ho hKK ⟨(S.c 0 2 rfl rfl), (S.c 1 2 rfl rfl)⟩ fun hS => ?_
        clear hKK KK
        refine rd 6 fun KK hKK => ?_
        go_simp; clear hS
        refine (S.call (wmul_to ⟨_, _, _, rfl, na⟩ ⟨_, _, _, rfl, nb⟩ HX.out.1.2 HX.out.2.2 D HD.out.2.1 HB.out.2)).mono ?_
        clear S
        rintro e w14 ⟨⟨_, rfl, pd, ld, Kd, rfl, nd⟩, S, H⟩
        refine iv7 H n1 d1 n2 d2 nz na nb ?_; clear n1 d1 n2 d2 nz na nb; intro n1 d1 n2 d2 nz na nb; replace HH := HH.trans H; clear H
        go_wp2_with fail
        refine ho hKK ⟨(S.c 0 2 rfl rfl), (S.c 1 2 rfl rfl)⟩ fun hS => ?_
        clear hKK KK
        refine tk 7 hS ?_
        refine tk 8 hS ?_
        refine tk 9 hS ?_
        refine rd 11 fun KK hKK => ?_
        have c0 := S.c 4 0 rfl rfl; have f0 := S.f 4 0 rfl; have c1 := S.c 4 1 rfl rfl; have f1 := S.f 4 1 rfl; go_simp; clear hS c0 f0 c1 f1
        have H := S.hset 4 0 (.bool (negB D)) rfl rfl (by intro q n e; cases e)
        replace S := S.set 4 0 (.bool (negB D)) rfl
        refine iv8 H n1 d1 n2 d2 nz na nb nd ?_; clear n1 d1 n2 d2 nz na nb nd; intro n1 d1 n2 d2 nz na nb nd; replace HH := HH.trans H; clear H
        have H := S.hset 4 1 (.slice pd ld Kd) rfl rfl (by intro q n e; cases e)
        replace S := S.set 4 1 (.slice pd ld Kd) rfl
        refine iv8 H n1 d1 n2 d2 nz na nb nd ?_; clear n1 d1 n2 d2 nz na nb nd; intro n1 d1 n2 d2 nz na nb nd; replace HH := HH.trans H; clear H
        refine ho hKK ⟨(S.c 0 2 rfl rfl), (S.c 1 2 rfl rfl)⟩ fun hS => ?_
        generalize ((w14.setCell ⟨w4.heap.size, 0, none⟩ (.bool (negB D))).setCell ⟨w4.heap.size, 1, none⟩ (.slice pd ld Kd)) = w15 at S n1 d1 n2 d2 nz na nb nd HH hS ⊢
        clear hKK KK
        refine rd 12 fun KK hKK => ?_
        go_simp
        refine ho hKK hS fun hS => ?_
        clear hKK KK
        refine wpAnyH_done (by kernel_rfl) ?_ _
        go_wp2_with fail
        go_meet
        case rel => exact ⟨w4.heap.size, pd, ld, Kd, rfl, rfl, S, nd, HH⟩
    ·
      go_simp; clear hS
      have H := S.hnew 25 [.bool false, .slice none 0 0]
      replace S := S.al 25 [.bool false, .slice none 0 0] (w3.heap.size)
      refine iv5 H n1 d1 n2 d2 nz ?_; clear n1 d1 n2 d2 nz; intro n1 d1 n2 d2 nz; replace HH := HH.trans H; clear H
      refine ho hKK ⟨(S.c 0 2 rfl rfl), (S.c 1 2 rfl rfl)⟩ fun hS => ?_
      generalize (w3.alloc (.cells #[.bool false, .slice none 0 0] 25)) = w16 at S n1 d1 n2 d2 nz HH hS ⊢
      clear hKK KK
      refine rd 2 fun KK hKK => ?_
      go_simp; clear hS
      refine (S.call (wnat_any d1 HX.out.1.2 (x.den : Int) rfl)).mono ?_
      clear S
      rintro e w17 ⟨⟨_, rfl, pa, la, Ka, rfl, na⟩, S, H⟩
      refine iv5 H n1 d1 n2 d2 nz ?_; clear n1 d1 n2 d2 nz; intro n1 d1 n2 d2 nz; replace HH := HH.trans H; clear H
      go_wp2_with fail
      refine ho hKK ⟨(S.c 0 2 rfl rfl), (S.c 1 2 rfl rfl)⟩ fun hS => ?_
      clear hKK KK
      refine rd 5 fun KK hKK => ?_
      go_simp; clear hS
      refine (S.call (wnat_any d2 HX.out.2.2 (y.den : Int) rfl)).mono ?_
      clear S
      rintro e w18 ⟨⟨_, rfl, pb, lb, Kb, rfl, nb⟩, S, H⟩
      refine iv6 H n1 d1 n2 d2 nz na ?_; clear n1 d1 n2 d2 nz na; intro n1 d1 n2 d2 nz na; replace HH := HH.trans H; clear H
      go_wp2_with fail
      refine ho hKK ⟨(S.c 0 2 rfl rfl), (S.c 1 2 rfl rfl)⟩ fun hS => ?_
      clear hKK KK
      refine rd 6 fun KK hKK => ?_
      go_simp; clear hS
      refine (S.call (wmul_to ⟨_, _, _, rfl, na⟩ ⟨_, _, _, rfl, nb⟩ HX.out.1.2 HX.out.2.2 D HD.out.2.1 HB.out.2)).mono ?_
      clear S
      rintro e w19 ⟨⟨_, rfl, pd, ld, Kd, rfl, nd⟩, S, H⟩
      refine iv7 H n1 d1 n2 d2 nz na nb ?_; clear n1 d1 n2 d2 nz na nb; intro n1 d1 n2 d2 nz na nb; replace HH := HH.trans H; clear H
      go_wp2_with fail
      refine ho hKK ⟨(S.c 0 2 rfl rfl), (S.c 1 2 rfl rfl)⟩ fun hS => ?_
      clear hKK KK
      refine tk 7 hS ?_
      refine tk 8 hS ?_
      refine tk 9 hS ?_
      refine rd 11 fun KK hKK => ?_
      have c0 := S.c 4 0 rfl rfl; have f0 := S.f 4 0 rfl; have c1 := S.c 4 1 rfl rfl; have f1 := S.f 4 1 rfl; go_simp; clear hS c0 f0 c1 f1
      have H := S.hset 4 0 (.bool (negB D)) rfl rfl (by intro q n e; cases e)
      replace S := S.set 4 0 (.bool (negB D)) rfl
      refine iv8 H n1 d1 n2 d2 nz na nb nd ?_; clear n1 d1 n2 d2 nz na nb nd; intro n1 d1 n2 d2 nz na nb nd; replace HH := HH.trans H; clear H
      have H := S.hset 4 1 (.slice pd ld Kd) rfl rfl (by intro q n e; cases e)
      replace S := S.set 4 1 (.slice pd ld Kd) rfl
      refine iv8 H n1 d1 n2 d2 nz na nb nd ?_; clear n1 d1 n2 d2 nz na nb nd; intro n1 d1 n2 d2 nz na nb nd; replace HH := HH.trans H; clear H
      refine ho hKK ⟨(S.c 0 2 rfl rfl), (S.c 1 2 rfl rfl)⟩ fun hS => ?_
      generalize ((w19.setCell ⟨w3.heap.size, 0, none⟩ (.bool (negB D))).setCell ⟨w3.heap.size, 1, none⟩ (.slice pd ld Kd)) = w20 at S n1 d1 n2 d2 nz na nb nd HH hS ⊢
      clear hKK KK
      refine rd 12 fun KK hKK => ?_
      go_simp
      refine ho hKK hS fun hS => ?_
      clear hKK KK
      refine wpAnyH_done (by kernel_rfl) ?_ _
      go_wp2_with fail
      go_meet
      case rel => exact ⟨w3.heap.size, pd, ld, Kd, rfl, rfl, S, nd, HH⟩
  case rest =>
    obtain ⟨g8, pd, ld, Kd, rfl, rfl, S, nd, HH⟩ := hcut
    obtain ⟨w21, rfl⟩ : ∃ W : World, W = wc := ⟨_, rfl⟩
    refine iv5 HH n1 d1 n2 d2 nz ?_; clear n1 d1 n2 d2 nz; intro n1 d1 n2 d2 nz; clear HH; obtain ⟨c0_0, c0_1, c0_2⟩ := S.c3 0 rfl; obtain ⟨c1_0, c1_1, c1_2⟩ := S.c3 1 rfl; obtain ⟨c2_0, c2_1, c2_2⟩ := S.c3 2 rfl; have c3_0 := S.c 3 0 rfl rfl; have c3_1 := S.c 3 1 rfl rfl; have c4_0 := S.c 4 0 rfl rfl; have c4_1 := S.c 4 1 rfl rfl
    go_upto_region 3 with fail
    clear c0_0 c0_1 c0_2 c1_0 c1_1 c1_2 c2_0 c2_1 c2_2 c3_0 c3_1 c4_0 c4_1
    have HH := Hold.drew w21
    refine iv6 HH n1 d1 n2 d2 nz nd ?_; clear n1 d1 n2 d2 nz nd; intro n1 d1 n2 d2 nz nd
    replace S := S.drew
    refine wp_region_held_drew (S := fun W => W.cell? ⟨w1.heap.size, 0, none⟩ = some (.bool (negB Z)) ∧ W.cell? ⟨w1.heap.size, 1, none⟩ = some (.slice pz lz Kz) ∧ W.cell? ⟨g8, 0, none⟩ = some (.bool (negB D)) ∧ W.cell? ⟨g8, 1, none⟩ = some (.slice pd ld Kd)) (by kernel_rfl) ⟨(S.c 3 0 rfl rfl), ⟨(S.c 3 1 rfl rfl), ⟨(S.c 4 0 rfl rfl), (S.c 4 1 rfl rfl)⟩⟩⟩ (fun hS => ?_)
    generalize w21.drew = w22 at S n1 d1 n2 d2 nz nd HH hS ⊢
    refine tk 0 hS ?_
    refine tk 1 hS ?_
    refine tk 2 hS ?_
    refine tk 3 hS ?_
    refine rd 4 fun KK hKK => ?_
    go_simp; clear hS
    have H := S.hnew 36 [.int .i64 0, .int .i64 0]
    replace S := S.al 36 [.int .i64 0, .int .i64 0] (w22.heap.size)
    refine iv6 H n1 d1 n2 d2 nz nd ?_; clear n1 d1 n2 d2 nz nd; intro n1 d1 n2 d2 nz nd; replace HH := HH.trans H; clear H
    refine ho hKK ⟨(S.c 3 0 rfl rfl), ⟨(S.c 3 1 rfl rfl), ⟨(S.c 4 0 rfl rfl), (S.c 4 1 rfl rfl)⟩⟩⟩ fun hS => ?_
    generalize (w22.alloc (.cells #[.int .i64 0, .int .i64 0] 36)) = w23 at S n1 d1 n2 d2 nz nd HH hS ⊢
    clear hKK KK
    refine rd 5 fun KK hKK => ?_
    go_simp; clear hS
    refine (S.call (or_two S 5 rfl)).mono ?_
    clear S
    rintro e w24 ⟨rfl, S, H⟩
    refine iv6 H n1 d1 n2 d2 nz nd ?_; clear n1 d1 n2 d2 nz nd; intro n1 d1 n2 d2 nz nd; replace HH := HH.trans H; clear H
    go_wp2_with fail
    refine ho hKK ⟨(S.c 3 0 rfl rfl), ⟨(S.c 3 1 rfl rfl), ⟨(S.c 4 0 rfl rfl), (S.c 4 1 rfl rfl)⟩⟩⟩ fun hS => ?_
    clear hKK KK
    refine rd 6 fun KK hKK => ?_
    go_simp; clear hS
    refine (S.call (over_any ⟨_, _, _, rfl, nz⟩ ⟨_, _, _, rfl, nd⟩ HB.out.1 HB.out.2 HD.out.2.2.2 q HD.out.2.2.1)).mono ?_
    clear S
    rintro e w25 ⟨⟨_, rfl, b, p, l, K, q', j, J, rfl, hb, nn, dd⟩, S, H⟩
    refine iv6 H n1 d1 n2 d2 nz nd ?_; clear n1 d1 n2 d2 nz nd; intro n1 d1 n2 d2 nz nd; replace HH := HH.trans H; clear H
    go_wp2_with fail
    refine ho hKK ⟨(S.c 3 0 rfl rfl), ⟨(S.c 3 1 rfl rfl), ⟨(S.c 4 0 rfl rfl), (S.c 4 1 rfl rfl)⟩⟩⟩ fun hS => ?_
    clear hKK KK
    refine tk 7 hS ?_
    refine tk 8 hS ?_
    refine rd 9 fun KK hKK => ?_
    obtain ⟨c0, c1, c2⟩ := S.c3 2 rfl; obtain ⟨f0, f1, f2⟩ := S.f3 2 rfl
    go_simp; clear hS c0 f0 c1 f1 c2 f2
    have HP := S.putq 2 (.bool b) (.slice p l K) (.slice q' j J) rfl rfl; have H := HP.2; replace S := HP.1; clear HP
    refine iv8 H n1 d1 n2 d2 nz nd nn dd ?_; clear n1 d1 n2 d2 nz nd nn dd; intro n1 d1 n2 d2 nz nd nn dd; replace HH := HH.trans H; clear H
    refine ho hKK ⟨(S.c 3 0 rfl rfl), ⟨(S.c 3 1 rfl rfl), ⟨(S.c 4 0 rfl rfl), (S.c 4 1 rfl rfl)⟩⟩⟩ fun hS => ?_
    generalize (((w25.setCell ⟨w.heap.size + 1 + 1, 0, none⟩ (.bool b)).setCell ⟨w.heap.size + 1 + 1, 1, none⟩ (.slice p l K)).setCell ⟨w.heap.size + 1 + 1, 2, none⟩ (.slice q' j J)) = w26 at S n1 d1 n2 d2 nz nd nn dd HH hS ⊢
    clear hKK KK
    refine rd 10 fun KK hKK => ?_
    go_simp
    refine ho hKK hS fun hS => ?_
    clear hKK KK
    refine wpAnyH_done (by kernel_rfl) ?_ _
    clear hS HH; obtain ⟨c0_0, c0_1, c0_2⟩ := S.c3 0 rfl; obtain ⟨c1_0, c1_1, c1_2⟩ := S.c3 1 rfl; obtain ⟨c2_0, c2_1, c2_2⟩ := S.c3 2 rfl; have c3_0 := S.c 3 0 rfl rfl; have c3_1 := S.c 3 1 rfl rfl; have c4_0 := S.c 4 0 rfl rfl; have c4_1 := S.c 4 1 rfl rfl; go_wp2_with fail; obtain ⟨d2_0, d2_1, d2_2⟩ := S.c3 2 rfl
    exact bodyPost_ret (v := .tuple #[.agg #[.bool b, .slice p l K, .slice q' j J], .int .i64 0]) (by simp [results, Tryz.f22, go_sem, d2_0, d2_1, d2_2]) rfl (⟨⟨_, rfl, b, p, l, K, q', j, J, rfl, hb, nn, dd⟩, S.below⟩)
set_option maxRecDepth 100000 in
set_option maxHeartbeats 4000000 in
theorem radd_any {va vb : Value} {x y : Rat} {w : World} (ha : IsRat w va x) (hb : IsRat w vb y) {k1 k2 : Nat} (hx : RB x k1) (hy : RB y k2) (hk : k1 + k2 ≤ 511) (q : Rat) (hq : x + y = q) :
    Calls Tryz.prog 20 #[va, vb] w fun e w' => (∃ u, e = .returned (.tuple #[u, .int .i64 0]) ∧ IsRat w' u q) ∧ Below w.heap.size w w' := by
  obtain ⟨b1, p1, l1, K1, q1, j1, J1, rfl, hb1, n1, d1⟩ := ha
  obtain ⟨b2, p2, l2, K2, q2, j2, J2, rfl, hb2, n2, d2⟩ := hb
  obtain ⟨X, hX⟩ : ∃ X, x.num * y.den = X := ⟨_, rfl⟩
  obtain ⟨Y, hY⟩ : ∃ Y, y.num * x.den = Y := ⟨_, rfl⟩
  obtain ⟨Z, hZ⟩ : ∃ Z, X + Y = Z := ⟨_, rfl⟩
  obtain ⟨D, hD⟩ : ∃ D, ((x.den * y.den : Nat) : Int) = D := ⟨_, rfl⟩
  have hb := rbz hx hy
  rw [hX, hY] at hb
  have hZb : Z.natAbs < NB (k1 + k2 + 1) := hZ ▸ nbz_add hb.1 hb.2.1
  have hD0 : D ≠ 0 := by rw [← hD]; have := Nat.mul_pos x.den_pos y.den_pos; omega
  have hDb : D.natAbs < maxN := by rw [← hD, Int.natAbs_natCast]; exact nb_max hb.2.2.1 (by omega)
  have hdd : (x.den : Int) * (y.den : Int) = D := by rw [← hD, Int.natCast_mul]
  have hq2 : q = Rat.divInt Z D := by rw [← hq, add_divInt, hX, hY, hZ, hD]
  have HX := Lib.hid (And.intro (rb_max hx (by omega)) (rb_max hy (by omega)))
  have HD := Lib.hid (And.intro hX (And.intro hY (And.intro hZ (And.intro hdd (And.intro hq2 hD0)))))
  have HB := Lib.hid (And.intro (nb_max hb.1 (by omega)) (And.intro (nb_max hb.2.1 (by omega)) (And.intro (nb_max hZb (by omega)) hDb)))
  clear hX hY hZ hD hb hZb hD0 hDb hdd hq hq2 hx hy hk
  have S := (((St.start w).alloc 34 [.bool b1, .slice p1 l1 K1, .slice q1 j1 J1] (w.heap.size)).alloc 34 [.bool b2, .slice p2 l2 K2, .slice q2 j2 J2] (w.heap.size + 1)).alloc 34 [.bool false, .slice none 0 0, .slice none 0 0] (w.heap.size + 1 + 1)
  try simp only [List.cons_append, List.nil_append] at S
  refine iv4 S.hold n1 d1 n2 d2 ?_; clear n1 d1 n2 d2; intro n1 d1 n2 d2
  obtain ⟨c0_0, c0_1, c0_2⟩ := S.c3 0 rfl; obtain ⟨c1_0, c1_1, c1_2⟩ := S.c3 1 rfl; obtain ⟨c2_0, c2_1, c2_2⟩ := S.c3 2 rfl
  go_enter Tryz.func20, Tryz.ntmps20
  go_wp2_with fail; clear c0_0 c0_1 c0_2 c1_0 c1_1 c1_2 c2_0 c2_1 c2_2
  refine (S.call (cross_any ⟨b1, p1, l1, K1, q1, j1, J1, rfl, hb1, n1, d1⟩ ⟨b2, p2, l2, K2, q2, j2, J2, rfl, hb2, n2, d2⟩ HX.out.1.1 HX.out.1.2 HX.out.2.1 HX.out.2.2 X Y HD.out.1 HD.out.2.1 HB.out.1 HB.out.2.1)).mono ?_
  clear S
  rintro e w1 ⟨⟨_, _, rfl, ⟨px, lx, Kx, rfl, nx⟩, ⟨py, ly, Ky, rfl, ny⟩⟩, S, H⟩
  refine iv4 H n1 d1 n2 d2 ?_; clear n1 d1 n2 d2; intro n1 d1 n2 d2
  clear H; obtain ⟨c0_0, c0_1, c0_2⟩ := S.c3 0 rfl; obtain ⟨c1_0, c1_1, c1_2⟩ := S.c3 1 rfl; obtain ⟨c2_0, c2_1, c2_2⟩ := S.c3 2 rfl
  have H := S.hnew 25 [.bool (negB X), .slice px lx Kx]
  replace S := S.al 25 [.bool (negB X), .slice px lx Kx] (w1.heap.size)
  refine iv6 H n1 d1 n2 d2 nx ny ?_; clear n1 d1 n2 d2 nx ny; intro n1 d1 n2 d2 nx ny
  clear H
  have H := S.hnew 25 [.bool (negB Y), .slice py ly Ky]
  replace S := S.al 25 [.bool (negB Y), .slice py ly Ky] (w1.heap.size + 1)
  refine iv6 H n1 d1 n2 d2 nx ny ?_; clear n1 d1 n2 d2 nx ny; intro n1 d1 n2 d2 nx ny
  clear H; clear c0_0 c0_1 c0_2 c1_0 c1_1 c1_2 c2_0 c2_1 c2_2; obtain ⟨c0_0, c0_1, c0_2⟩ := S.c3 0 rfl; obtain ⟨c1_0, c1_1, c1_2⟩ := S.c3 1 rfl; obtain ⟨c2_0, c2_1, c2_2⟩ := S.c3 2 rfl; have c3_0 := S.c 3 0 rfl rfl; have c3_1 := S.c 3 1 rfl rfl; have c4_0 := S.c 4 0 rfl rfl; have c4_1 := S.c 4 1 rfl rfl; go_wp2_with fail; clear c0_0 c0_1 c0_2 c1_0 c1_1 c1_2 c2_0 c2_1 c2_2 c3_0 c3_1 c4_0 c4_1
  refine (S.call (wadd_to ⟨_, _, _, rfl, nx⟩ ⟨_, _, _, rfl, ny⟩ HB.out.1 HB.out.2.1 Z HD.out.2.2.1 HB.out.2.2.1)).mono ?_
  clear S
  rintro e w2 ⟨⟨_, rfl, pz, lz, Kz, rfl, nz⟩, S, H⟩
  refine iv6 H n1 d1 n2 d2 nx ny ?_; clear n1 d1 n2 d2 nx ny; intro n1 d1 n2 d2 nx ny
  clear H; obtain ⟨c0_0, c0_1, c0_2⟩ := S.c3 0 rfl; obtain ⟨c1_0, c1_1, c1_2⟩ := S.c3 1 rfl; obtain ⟨c2_0, c2_1, c2_2⟩ := S.c3 2 rfl; have c3_0 := S.c 3 0 rfl rfl; have c3_1 := S.c 3 1 rfl rfl; have c4_0 := S.c 4 0 rfl rfl; have c4_1 := S.c 4 1 rfl rfl
  have H := S.hnew 25 [.bool (negB Z), .slice pz lz Kz]
  replace S := S.al 25 [.bool (negB Z), .slice pz lz Kz] (w2.heap.size)
  refine iv7 H n1 d1 n2 d2 nx ny nz ?_; clear n1 d1 n2 d2 nx ny nz; intro n1 d1 n2 d2 nx ny nz
  clear H; clear c0_0 c0_1 c0_2 c1_0 c1_1 c1_2 c2_0 c2_1 c2_2 c3_0 c3_1 c4_0 c4_1; obtain ⟨c0_0, c0_1, c0_2⟩ := S.c3 0 rfl; obtain ⟨c1_0, c1_1, c1_2⟩ := S.c3 1 rfl; obtain ⟨c2_0, c2_1, c2_2⟩ := S.c3 2 rfl; have c3_0 := S.c 3 0 rfl rfl; have c3_1 := S.c 3 1 rfl rfl; have c4_0 := S.c 4 0 rfl rfl; have c4_1 := S.c 4 1 rfl rfl; have c5_0 := S.c 5 0 rfl rfl; have c5_1 := S.c 5 1 rfl rfl
  go_upto_region 5 with fail
  clear c0_0 c0_1 c0_2 c1_0 c1_1 c1_2 c2_0 c2_1 c2_2 c3_0 c3_1 c4_0 c4_1 c5_0 c5_1
  generalize (w2.alloc (.cells #[.bool (negB Z), .slice pz lz Kz] 25)) = w3 at S n1 d1 n2 d2 nx ny nz ⊢
  go_cut [10, 11] (fun s10 s11 wx => ∃ g10 pd ld Kd, s10 = .pointer (some ⟨g10, 0, none⟩) ∧ s11 = .int .i64 0 ∧ St w wx [(w.heap.size, 34, [.bool b1, .slice p1 l1 K1, .slice q1 j1 J1]), (w.heap.size + 1, 34, [.bool b2, .slice p2 l2 K2, .slice q2 j2 J2]), (w.heap.size + 1 + 1, 34, [.bool false, .slice none 0 0, .slice none 0 0]), (w1.heap.size, 25, [.bool (negB X), .slice px lx Kx]), (w1.heap.size + 1, 25, [.bool (negB Y), .slice py ly Ky]), (w2.heap.size, 25, [.bool (negB Z), .slice pz lz Kz]), (g10, 25, [.bool (negB D), .slice pd ld Kd])] ∧ IsNat wx (.slice pd ld Kd) D.natAbs ∧ Hold w3 wx)
  case first =>
    have HH := Hold.drew w3
    refine iv7 HH n1 d1 n2 d2 nx ny nz ?_; clear n1 d1 n2 d2 nx ny nz; intro n1 d1 n2 d2 nx ny nz
    replace S := S.drew
    refine wp_region_held_drew (S := fun W => W.cell? ⟨w.heap.size, 2, none⟩ = some (.slice q1 j1 J1) ∧ W.cell? ⟨w.heap.size + 1, 2, none⟩ = some (.slice q2 j2 J2)) (by kernel_rfl) ⟨(S.c 0 2 rfl rfl), (S.c 1 2 rfl rfl)⟩ (fun hS => ?_)
    generalize w3.drew = w4 at S n1 d1 n2 d2 nx ny nz HH hS ⊢
    refine tk 0 hS ?_
    refine tk 1 hS ?_
    refine tk 3 hS ?_
    refine tk 4 hS ?_
    refine wpAnyH_ready (rs := [2, 10]) (by kernel_rfl) (by simp) (AllReadyH.cons (opOf rfl) (fun KK hKK => ?_) (AllReadyH.cons (opOf rfl) (fun KK hKK => ?_) AllReadyH.nil))
    ·
      go_simp; clear hS
      refine (S.call (wnat_any d1 HX.out.1.2 (x.den : Int) rfl)).mono ?_
      clear S
      rintro e w5 ⟨⟨_, rfl, pa, la, Ka, rfl, na⟩, S, H⟩
      refine iv7 H n1 d1 n2 d2 nx ny nz ?_; clear n1 d1 n2 d2 nx ny nz; intro n1 d1 n2 d2 nx ny nz; replace HH := HH.trans H; clear H
      go_wp2_with fail
      refine ho hKK ⟨(S.c 0 2 rfl rfl), (S.c 1 2 rfl rfl)⟩ fun hS => ?_
      clear hKK KK
      refine wpAnyH_ready (rs := [5, 10]) (by kernel_rfl) (by simp) (AllReadyH.cons (opOf rfl) (fun KK hKK => ?_) (AllReadyH.cons (opOf rfl) (fun KK hKK => ?_) AllReadyH.nil))
      ·
        go_simp; clear hS
        refine (S.call (wnat_any d2 HX.out.2.2 (y.den : Int) rfl)).mono ?_
        clear S
        rintro e w6 ⟨⟨_, rfl, pb, lb, Kb, rfl, nb⟩, S, H⟩
        refine iv8 H n1 d1 n2 d2 nx ny nz na ?_; clear n1 d1 n2 d2 nx ny nz na; intro n1 d1 n2 d2 nx ny nz na; replace HH := HH.trans H; clear H
        go_wp2_with fail
        refine ho hKK ⟨(S.c 0 2 rfl rfl), (S.c 1 2 rfl rfl)⟩ fun hS => ?_
        clear hKK KK
        refine wpAnyH_ready (rs := [6, 10]) (by kernel_rfl) (by simp) (AllReadyH.cons (opOf rfl) (fun KK hKK => ?_) (AllReadyH.cons (opOf rfl) (fun KK hKK => ?_) AllReadyH.nil))
        ·
          go_simp; clear hS
          refine (S.call (wmul_to ⟨_, _, _, rfl, na⟩ ⟨_, _, _, rfl, nb⟩ HX.out.1.2 HX.out.2.2 D HD.out.2.2.2.1 HB.out.2.2.2)).mono ?_
          clear S
          rintro e w7 ⟨⟨_, rfl, pd, ld, Kd, rfl, nd⟩, S, H⟩
          refine iv8 H n1 d1 n2 d2 nx ny nz na ?_; clear n1 d1 n2 d2 nx ny nz na; intro n1 d1 n2 d2 nx ny nz na; replace nb := nb.hold H; replace HH := HH.trans H; clear H
          go_wp2_with fail
          refine ho hKK ⟨(S.c 0 2 rfl rfl), (S.c 1 2 rfl rfl)⟩ fun hS => ?_
          clear hKK KK
          refine tk 7 hS ?_
          refine tk 8 hS ?_
          refine tk 9 hS ?_
          refine rd 10 fun KK hKK => ?_
          go_simp; clear hS
          have H := S.hnew 25 [.bool false, .slice none 0 0]
          replace S := S.al 25 [.bool false, .slice none 0 0] (w7.heap.size)
          refine iv8 H n1 d1 n2 d2 nx ny nz na ?_; clear n1 d1 n2 d2 nx ny nz na; intro n1 d1 n2 d2 nx ny nz na; refine iv2 H nb nd ?_; clear nb nd; intro nb nd; replace HH := HH.trans H; clear H
          refine ho hKK ⟨(S.c 0 2 rfl rfl), (S.c 1 2 rfl rfl)⟩ fun hS => ?_
          generalize (w7.alloc (.cells #[.bool false, .slice none 0 0] 25)) = w8 at S n1 d1 n2 d2 nx ny nz na nb nd HH hS ⊢
          clear hKK KK
          refine rd 11 fun KK hKK => ?_
          have c0 := S.c 6 0 rfl rfl; have f0 := S.f 6 0 rfl; have c1 := S.c 6 1 rfl rfl; have f1 := S.f 6 1 rfl; go_simp; clear hS c0 f0 c1 f1
          have H := S.hset 6 0 (.bool (negB D)) rfl rfl (by intro q n e; cases e)
          replace S := S.set 6 0 (.bool (negB D)) rfl
          refine iv8 H n1 d1 n2 d2 nx ny nz na ?_; clear n1 d1 n2 d2 nx ny nz na; intro n1 d1 n2 d2 nx ny nz na; refine iv2 H nb nd ?_; clear nb nd; intro nb nd; replace HH := HH.trans H; clear H
          have H := S.hset 6 1 (.slice pd ld Kd) rfl rfl (by intro q n e; cases e)
          replace S := S.set 6 1 (.slice pd ld Kd) rfl
          refine iv8 H n1 d1 n2 d2 nx ny nz na ?_; clear n1 d1 n2 d2 nx ny nz na; intro n1 d1 n2 d2 nx ny nz na; refine iv2 H nb nd ?_; clear nb nd; intro nb nd; replace HH := HH.trans H; clear H
          refine ho hKK ⟨(S.c 0 2 rfl rfl), (S.c 1 2 rfl rfl)⟩ fun hS => ?_
          generalize ((w8.setCell ⟨w7.heap.size, 0, none⟩ (.bool (negB D))).setCell ⟨w7.heap.size, 1, none⟩ (.slice pd ld Kd)) = w9 at S n1 d1 n2 d2 nx ny nz na nb nd HH hS ⊢
          clear hKK KK
          refine rd 12 fun KK hKK => ?_
          go_simp
          refine ho hKK hS fun hS => ?_
          clear hKK KK
          refine wpAnyH_done (by kernel_rfl) ?_ _
          go_wp2_with fail
          go_meet
          case rel => exact ⟨w7.heap.size, pd, ld, Kd, rfl, rfl, S, nd, HH⟩
        ·
          go_simp; clear hS
          have H := S.hnew 25 [.bool false, .slice none 0 0]
          replace S := S.al 25 [.bool false, .slice none 0 0] (w6.heap.size)
          refine iv8 H n1 d1 n2 d2 nx ny nz na ?_; clear n1 d1 n2 d2 nx ny nz na; intro n1 d1 n2 d2 nx ny nz na; replace nb := nb.hold H; replace HH := HH.trans H; clear H
          refine ho hKK ⟨(S.c 0 2 rfl rfl), (S.c 1 2 rfl rfl)⟩ fun hS => ?_
          generalize (w6.alloc (.cells #[.bool false, .slice none 0 0] 25)) = w10 at S n1 d1 n2 d2 nx ny nz na nb HH hS ⊢
          clear hKK KK
          refine rd 6 fun KK hKK => ?_
          go_simp; clear hS
          refine (S.call (wmul_to ⟨_, _, _, rfl, na⟩ ⟨_, _, _, rfl, nb⟩ HX.out.1.2 HX.out.2.2 D HD.out.2.2.2.1 HB.out.2.2.2)).mono ?_
          clear S
          rintro e w11 ⟨⟨_, rfl, pd, ld, Kd, rfl, nd⟩, S, H⟩
          refine iv8 H n1 d1 n2 d2 nx ny nz na ?_; clear n1 d1 n2 d2 nx ny nz na; intro n1 d1 n2 d2 nx ny nz na; replace nb := nb.hold H; replace HH := HH.trans H; clear H
          go_wp2_with fail
          refine ho hKK ⟨(S.c 0 2 rfl rfl), (S.c 1 2 rfl rfl)⟩ fun hS => ?_
          clear hKK KK
          refine tk 7 hS ?_
          refine tk 8 hS ?_
          refine tk 9 hS ?_
          refine rd 11 fun KK hKK => ?_
          have c0 := S.c 6 0 rfl rfl; have f0 := S.f 6 0 rfl; have c1 := S.c 6 1 rfl rfl; have f1 := S.f 6 1 rfl; go_simp; clear hS c0 f0 c1 f1
          have H := S.hset 6 0 (.bool (negB D)) rfl rfl (by intro q n e; cases e)
          replace S := S.set 6 0 (.bool (negB D)) rfl
          refine iv8 H n1 d1 n2 d2 nx ny nz na ?_; clear n1 d1 n2 d2 nx ny nz na; intro n1 d1 n2 d2 nx ny nz na; refine iv2 H nb nd ?_; clear nb nd; intro nb nd; replace HH := HH.trans H; clear H
          have H := S.hset 6 1 (.slice pd ld Kd) rfl rfl (by intro q n e; cases e)
          replace S := S.set 6 1 (.slice pd ld Kd) rfl
          refine iv8 H n1 d1 n2 d2 nx ny nz na ?_; clear n1 d1 n2 d2 nx ny nz na; intro n1 d1 n2 d2 nx ny nz na; refine iv2 H nb nd ?_; clear nb nd; intro nb nd; replace HH := HH.trans H; clear H
          refine ho hKK ⟨(S.c 0 2 rfl rfl), (S.c 1 2 rfl rfl)⟩ fun hS => ?_
          generalize ((w11.setCell ⟨w6.heap.size, 0, none⟩ (.bool (negB D))).setCell ⟨w6.heap.size, 1, none⟩ (.slice pd ld Kd)) = w12 at S n1 d1 n2 d2 nx ny nz na nb nd HH hS ⊢
          clear hKK KK
          refine rd 12 fun KK hKK => ?_
          go_simp
          refine ho hKK hS fun hS => ?_
          clear hKK KK
          refine wpAnyH_done (by kernel_rfl) ?_ _
          go_wp2_with fail
          go_meet
          case rel => exact ⟨w6.heap.size, pd, ld, Kd, rfl, rfl, S, nd, HH⟩
      ·
        go_simp; clear hS
        have H := S.hnew 25 [.bool false, .slice none 0 0]
        replace S := S.al 25 [.bool false, .slice none 0 0] (w5.heap.size)
        refine iv8 H n1 d1 n2 d2 nx ny nz na ?_; clear n1 d1 n2 d2 nx ny nz na; intro n1 d1 n2 d2 nx ny nz na; replace HH := HH.trans H; clear H
        refine ho hKK ⟨(S.c 0 2 rfl rfl), (S.c 1 2 rfl rfl)⟩ fun hS => ?_
        generalize (w5.alloc (.cells #[.bool false, .slice none 0 0] 25)) = w13 at S n1 d1 n2 d2 nx ny nz na HH hS ⊢
        clear hKK KK
        refine rd 5 fun KK hKK => ?_
        go_simp; clear hS
        refine (S.call (wnat_any d2 HX.out.2.2 (y.den : Int) rfl)).mono ?_
        clear S
        rintro e w14 ⟨⟨_, rfl, pb, lb, Kb, rfl, nb⟩, S, H⟩
        refine iv8 H n1 d1 n2 d2 nx ny nz na ?_; clear n1 d1 n2 d2 nx ny nz na; intro n1 d1 n2 d2 nx ny nz na; replace HH := HH.trans H; clear H
        go_wp2_with fail
        refine ho hKK ⟨(S.c 0 2 rfl rfl), (S.c 1 2 rfl rfl)⟩ fun hS => ?_
        clear hKK KK
        refine rd 6 fun KK hKK => ?_
        go_simp; clear hS
        refine (S.call (wmul_to ⟨_, _, _, rfl, na⟩ ⟨_, _, _, rfl, nb⟩ HX.out.1.2 HX.out.2.2 D HD.out.2.2.2.1 HB.out.2.2.2)).mono ?_
        clear S
        rintro e w15 ⟨⟨_, rfl, pd, ld, Kd, rfl, nd⟩, S, H⟩
        refine iv8 H n1 d1 n2 d2 nx ny nz na ?_; clear n1 d1 n2 d2 nx ny nz na; intro n1 d1 n2 d2 nx ny nz na; replace nb := nb.hold H; replace HH := HH.trans H; clear H
        go_wp2_with fail
        refine ho hKK ⟨(S.c 0 2 rfl rfl), (S.c 1 2 rfl rfl)⟩ fun hS => ?_
        clear hKK KK
        refine tk 7 hS ?_
        refine tk 8 hS ?_
        refine tk 9 hS ?_
        refine rd 11 fun KK hKK => ?_
        have c0 := S.c 6 0 rfl rfl; have f0 := S.f 6 0 rfl; have c1 := S.c 6 1 rfl rfl; have f1 := S.f 6 1 rfl; go_simp; clear hS c0 f0 c1 f1
        have H := S.hset 6 0 (.bool (negB D)) rfl rfl (by intro q n e; cases e)
        replace S := S.set 6 0 (.bool (negB D)) rfl
        refine iv8 H n1 d1 n2 d2 nx ny nz na ?_; clear n1 d1 n2 d2 nx ny nz na; intro n1 d1 n2 d2 nx ny nz na; refine iv2 H nb nd ?_; clear nb nd; intro nb nd; replace HH := HH.trans H; clear H
        have H := S.hset 6 1 (.slice pd ld Kd) rfl rfl (by intro q n e; cases e)
        replace S := S.set 6 1 (.slice pd ld Kd) rfl
        refine iv8 H n1 d1 n2 d2 nx ny nz na ?_; clear n1 d1 n2 d2 nx ny nz na; intro n1 d1 n2 d2 nx ny nz na; refine iv2 H nb nd ?_; clear nb nd; intro nb nd; replace HH := HH.trans H; clear H
        refine ho hKK ⟨(S.c 0 2 rfl rfl), (S.c 1 2 rfl rfl)⟩ fun hS => ?_
        generalize ((w15.setCell ⟨w5.heap.size, 0, none⟩ (.bool (negB D))).setCell ⟨w5.heap.size, 1, none⟩ (.slice pd ld Kd)) = w16 at S n1 d1 n2 d2 nx ny nz na nb nd HH hS ⊢
        clear hKK KK
        refine rd 12 fun KK hKK => ?_
        go_simp
        refine ho hKK hS fun hS => ?_
        clear hKK KK
        refine wpAnyH_done (by kernel_rfl) ?_ _
        go_wp2_with fail
        go_meet
        case rel => exact ⟨w5.heap.size, pd, ld, Kd, rfl, rfl, S, nd, HH⟩
    ·
      go_simp; clear hS
      have H := S.hnew 25 [.bool false, .slice none 0 0]
      replace S := S.al 25 [.bool false, .slice none 0 0] (w4.heap.size)
      refine iv7 H n1 d1 n2 d2 nx ny nz ?_; clear n1 d1 n2 d2 nx ny nz; intro n1 d1 n2 d2 nx ny nz; replace HH := HH.trans H; clear H
      refine ho hKK ⟨(S.c 0 2 rfl rfl), (S.c 1 2 rfl rfl)⟩ fun hS => ?_
      generalize (w4.alloc (.cells #[.bool false, .slice none 0 0] 25)) = w17 at S n1 d1 n2 d2 nx ny nz HH hS ⊢
      clear hKK KK
      refine rd 2 fun KK hKK => ?_
      go_simp; clear hS
      refine (S.call (wnat_any d1 HX.out.1.2 (x.den : Int) rfl)).mono ?_
      clear S
      rintro e w18 ⟨⟨_, rfl, pa, la, Ka, rfl, na⟩, S, H⟩
      refine iv7 H n1 d1 n2 d2 nx ny nz ?_; clear n1 d1 n2 d2 nx ny nz; intro n1 d1 n2 d2 nx ny nz; replace HH := HH.trans H; clear H
      go_wp2_with fail
      refine ho hKK ⟨(S.c 0 2 rfl rfl), (S.c 1 2 rfl rfl)⟩ fun hS => ?_
      clear hKK KK
      refine rd 5 fun KK hKK => ?_
      go_simp; clear hS
      refine (S.call (wnat_any d2 HX.out.2.2 (y.den : Int) rfl)).mono ?_
      clear S
      rintro e w19 ⟨⟨_, rfl, pb, lb, Kb, rfl, nb⟩, S, H⟩
      refine iv8 H n1 d1 n2 d2 nx ny nz na ?_; clear n1 d1 n2 d2 nx ny nz na; intro n1 d1 n2 d2 nx ny nz na; replace HH := HH.trans H; clear H
      go_wp2_with fail
      refine ho hKK ⟨(S.c 0 2 rfl rfl), (S.c 1 2 rfl rfl)⟩ fun hS => ?_
      clear hKK KK
      refine rd 6 fun KK hKK => ?_
      go_simp; clear hS
      refine (S.call (wmul_to ⟨_, _, _, rfl, na⟩ ⟨_, _, _, rfl, nb⟩ HX.out.1.2 HX.out.2.2 D HD.out.2.2.2.1 HB.out.2.2.2)).mono ?_
      clear S
      rintro e w20 ⟨⟨_, rfl, pd, ld, Kd, rfl, nd⟩, S, H⟩
      refine iv8 H n1 d1 n2 d2 nx ny nz na ?_; clear n1 d1 n2 d2 nx ny nz na; intro n1 d1 n2 d2 nx ny nz na; replace nb := nb.hold H; replace HH := HH.trans H; clear H
      go_wp2_with fail
      refine ho hKK ⟨(S.c 0 2 rfl rfl), (S.c 1 2 rfl rfl)⟩ fun hS => ?_
      clear hKK KK
      refine tk 7 hS ?_
      refine tk 8 hS ?_
      refine tk 9 hS ?_
      refine rd 11 fun KK hKK => ?_
      have c0 := S.c 6 0 rfl rfl; have f0 := S.f 6 0 rfl; have c1 := S.c 6 1 rfl rfl; have f1 := S.f 6 1 rfl; go_simp; clear hS c0 f0 c1 f1
      have H := S.hset 6 0 (.bool (negB D)) rfl rfl (by intro q n e; cases e)
      replace S := S.set 6 0 (.bool (negB D)) rfl
      refine iv8 H n1 d1 n2 d2 nx ny nz na ?_; clear n1 d1 n2 d2 nx ny nz na; intro n1 d1 n2 d2 nx ny nz na; refine iv2 H nb nd ?_; clear nb nd; intro nb nd; replace HH := HH.trans H; clear H
      have H := S.hset 6 1 (.slice pd ld Kd) rfl rfl (by intro q n e; cases e)
      replace S := S.set 6 1 (.slice pd ld Kd) rfl
      refine iv8 H n1 d1 n2 d2 nx ny nz na ?_; clear n1 d1 n2 d2 nx ny nz na; intro n1 d1 n2 d2 nx ny nz na; refine iv2 H nb nd ?_; clear nb nd; intro nb nd; replace HH := HH.trans H; clear H
      refine ho hKK ⟨(S.c 0 2 rfl rfl), (S.c 1 2 rfl rfl)⟩ fun hS => ?_
      generalize ((w20.setCell ⟨w4.heap.size, 0, none⟩ (.bool (negB D))).setCell ⟨w4.heap.size, 1, none⟩ (.slice pd ld Kd)) = w21 at S n1 d1 n2 d2 nx ny nz na nb nd HH hS ⊢
      clear hKK KK
      refine rd 12 fun KK hKK => ?_
      go_simp
      refine ho hKK hS fun hS => ?_
      clear hKK KK
      refine wpAnyH_done (by kernel_rfl) ?_ _
      go_wp2_with fail
      go_meet
      case rel => exact ⟨w4.heap.size, pd, ld, Kd, rfl, rfl, S, nd, HH⟩
  case rest =>
    obtain ⟨g10, pd, ld, Kd, rfl, rfl, S, nd, HH⟩ := hcut
    obtain ⟨w22, rfl⟩ : ∃ W : World, W = wc := ⟨_, rfl⟩
    refine iv7 HH n1 d1 n2 d2 nx ny nz ?_; clear n1 d1 n2 d2 nx ny nz; intro n1 d1 n2 d2 nx ny nz; clear HH; obtain ⟨c0_0, c0_1, c0_2⟩ := S.c3 0 rfl; obtain ⟨c1_0, c1_1, c1_2⟩ := S.c3 1 rfl; obtain ⟨c2_0, c2_1, c2_2⟩ := S.c3 2 rfl; have c3_0 := S.c 3 0 rfl rfl; have c3_1 := S.c 3 1 rfl rfl; have c4_0 := S.c 4 0 rfl rfl; have c4_1 := S.c 4 1 rfl rfl; have c5_0 := S.c 5 0 rfl rfl; have c5_1 := S.c 5 1 rfl rfl; have c6_0 := S.c 6 0 rfl rfl; have c6_1 := S.c 6 1 rfl rfl
    go_upto_region 6 with fail
    clear c0_0 c0_1 c0_2 c1_0 c1_1 c1_2 c2_0 c2_1 c2_2 c3_0 c3_1 c4_0 c4_1 c5_0 c5_1 c6_0 c6_1
    have HH := Hold.drew w22
    refine iv8 HH n1 d1 n2 d2 nx ny nz nd ?_; clear n1 d1 n2 d2 nx ny nz nd; intro n1 d1 n2 d2 nx ny nz nd
    replace S := S.drew
    refine wp_region_held_drew (S := fun W => W.cell? ⟨w2.heap.size, 0, none⟩ = some (.bool (negB Z)) ∧ W.cell? ⟨w2.heap.size, 1, none⟩ = some (.slice pz lz Kz) ∧ W.cell? ⟨g10, 0, none⟩ = some (.bool (negB D)) ∧ W.cell? ⟨g10, 1, none⟩ = some (.slice pd ld Kd)) (by kernel_rfl) ⟨(S.c 5 0 rfl rfl), ⟨(S.c 5 1 rfl rfl), ⟨(S.c 6 0 rfl rfl), (S.c 6 1 rfl rfl)⟩⟩⟩ (fun hS => ?_)
    generalize w22.drew = w23 at S n1 d1 n2 d2 nx ny nz nd HH hS ⊢
    refine tk 0 hS ?_
    refine tk 1 hS ?_
    refine tk 2 hS ?_
    refine tk 3 hS ?_
    refine rd 4 fun KK hKK => ?_
    go_simp; clear hS
    have H := S.hnew 36 [.int .i64 0, .int .i64 0]
    replace S := S.al 36 [.int .i64 0, .int .i64 0] (w23.heap.size)
    refine iv8 H n1 d1 n2 d2 nx ny nz nd ?_; clear n1 d1 n2 d2 nx ny nz nd; intro n1 d1 n2 d2 nx ny nz nd; replace HH := HH.trans H; clear H
    refine ho hKK ⟨(S.c 5 0 rfl rfl), ⟨(S.c 5 1 rfl rfl), ⟨(S.c 6 0 rfl rfl), (S.c 6 1 rfl rfl)⟩⟩⟩ fun hS => ?_
    generalize (w23.alloc (.cells #[.int .i64 0, .int .i64 0] 36)) = w24 at S n1 d1 n2 d2 nx ny nz nd HH hS ⊢
    clear hKK KK
    refine rd 5 fun KK hKK => ?_
    go_simp; clear hS
    refine (S.call (or_two S 7 rfl)).mono ?_
    clear S
    rintro e w25 ⟨rfl, S, H⟩
    refine iv8 H n1 d1 n2 d2 nx ny nz nd ?_; clear n1 d1 n2 d2 nx ny nz nd; intro n1 d1 n2 d2 nx ny nz nd; replace HH := HH.trans H; clear H
    go_wp2_with fail
    refine ho hKK ⟨(S.c 5 0 rfl rfl), ⟨(S.c 5 1 rfl rfl), ⟨(S.c 6 0 rfl rfl), (S.c 6 1 rfl rfl)⟩⟩⟩ fun hS => ?_
    clear hKK KK
    refine rd 6 fun KK hKK => ?_
    go_simp; clear hS
    refine (S.call (over_any ⟨_, _, _, rfl, nz⟩ ⟨_, _, _, rfl, nd⟩ HB.out.2.2.1 HB.out.2.2.2 HD.out.2.2.2.2.2 q HD.out.2.2.2.2.1)).mono ?_
    clear S
    rintro e w26 ⟨⟨_, rfl, b, p, l, K, q', j, J, rfl, hb, nn, dd⟩, S, H⟩
    refine iv8 H n1 d1 n2 d2 nx ny nz nd ?_; clear n1 d1 n2 d2 nx ny nz nd; intro n1 d1 n2 d2 nx ny nz nd; replace HH := HH.trans H; clear H
    go_wp2_with fail
    refine ho hKK ⟨(S.c 5 0 rfl rfl), ⟨(S.c 5 1 rfl rfl), ⟨(S.c 6 0 rfl rfl), (S.c 6 1 rfl rfl)⟩⟩⟩ fun hS => ?_
    clear hKK KK
    refine tk 7 hS ?_
    refine tk 8 hS ?_
    refine rd 9 fun KK hKK => ?_
    obtain ⟨c0, c1, c2⟩ := S.c3 2 rfl; obtain ⟨f0, f1, f2⟩ := S.f3 2 rfl
    go_simp; clear hS c0 f0 c1 f1 c2 f2
    have HP := S.putq 2 (.bool b) (.slice p l K) (.slice q' j J) rfl rfl; have H := HP.2; replace S := HP.1; clear HP
    refine iv8 H n1 d1 n2 d2 nx ny nz nd ?_; clear n1 d1 n2 d2 nx ny nz nd; intro n1 d1 n2 d2 nx ny nz nd; refine iv2 H nn dd ?_; clear nn dd; intro nn dd; replace HH := HH.trans H; clear H
    refine ho hKK ⟨(S.c 5 0 rfl rfl), ⟨(S.c 5 1 rfl rfl), ⟨(S.c 6 0 rfl rfl), (S.c 6 1 rfl rfl)⟩⟩⟩ fun hS => ?_
    generalize (((w26.setCell ⟨w.heap.size + 1 + 1, 0, none⟩ (.bool b)).setCell ⟨w.heap.size + 1 + 1, 1, none⟩ (.slice p l K)).setCell ⟨w.heap.size + 1 + 1, 2, none⟩ (.slice q' j J)) = w27 at S n1 d1 n2 d2 nx ny nz nd nn dd HH hS ⊢
    clear hKK KK
    refine rd 10 fun KK hKK => ?_
    go_simp
    refine ho hKK hS fun hS => ?_
    clear hKK KK
    refine wpAnyH_done (by kernel_rfl) ?_ _
    clear hS HH; obtain ⟨c0_0, c0_1, c0_2⟩ := S.c3 0 rfl; obtain ⟨c1_0, c1_1, c1_2⟩ := S.c3 1 rfl; obtain ⟨c2_0, c2_1, c2_2⟩ := S.c3 2 rfl; have c3_0 := S.c 3 0 rfl rfl; have c3_1 := S.c 3 1 rfl rfl; have c4_0 := S.c 4 0 rfl rfl; have c4_1 := S.c 4 1 rfl rfl; have c5_0 := S.c 5 0 rfl rfl; have c5_1 := S.c 5 1 rfl rfl; have c6_0 := S.c 6 0 rfl rfl; have c6_1 := S.c 6 1 rfl rfl; go_wp2_with fail; obtain ⟨d2_0, d2_1, d2_2⟩ := S.c3 2 rfl
    exact bodyPost_ret (v := .tuple #[.agg #[.bool b, .slice p l K, .slice q' j J], .int .i64 0]) (by simp [results, Tryz.f20, go_sem, d2_0, d2_1, d2_2]) rfl (⟨⟨_, rfl, b, p, l, K, q', j, J, rfl, hb, nn, dd⟩, S.below⟩)
set_option maxRecDepth 100000 in
set_option maxHeartbeats 4000000 in
theorem rneg_any {va : Value} {x : Rat} {w : World} (ha : IsRat w va x) (hx : x.num.natAbs < maxN ∧ x.den < maxN) (q : Rat) (hq : -x = q) :
    Calls Tryz.prog 78 #[va] w fun e w' => (∃ u, e = .returned u ∧ IsRat w' u q) ∧ Below w.heap.size w w' := by
  obtain ⟨b1, p1, l1, K1, q1, j1, J1, rfl, hb1, n1, d1⟩ := ha
  have HX := Lib.hid hx
  have HQ := Lib.hid (And.intro (show q.num = -x.num by rw [← hq, Rat.neg_num]) (show q.den = x.den by rw [← hq, Rat.neg_den]))
  clear hx hq
  have S := ((St.start w).alloc 34 [.bool b1, .slice p1 l1 K1, .slice q1 j1 J1] (w.heap.size)).alloc 34 [.bool false, .slice none 0 0, .slice none 0 0] (w.heap.size + 1)
  try simp only [List.cons_append, List.nil_append] at S
  replace n1 := n1.hold S.hold; replace d1 := d1.hold S.hold
  obtain ⟨c0_0, c0_1, c0_2⟩ := S.c3 0 rfl; obtain ⟨c1_0, c1_1, c1_2⟩ := S.c3 1 rfl
  go_enter Tryz.func78, Tryz.ntmps78
  go_upto_region 1 with fail
  clear c0_0 c0_1 c0_2 c1_0 c1_1 c1_2
  generalize ((w.alloc (.cells #[.bool b1, .slice p1 l1 K1, .slice q1 j1 J1] 34)).alloc (.cells #[.bool false, .slice none 0 0, .slice none 0 0] 34)) = w1 at S n1 d1 ⊢
  have HH := Hold.drew w1
  replace n1 := n1.hold HH; replace d1 := d1.hold HH
  replace S := S.drew
  refine wp_region_held_drew (S := fun W => W.cell? ⟨w.heap.size, 0, none⟩ = some (.bool b1) ∧ W.cell? ⟨w.heap.size, 1, none⟩ = some (.slice p1 l1 K1) ∧ W.cell? ⟨w.heap.size, 2, none⟩ = some (.slice q1 j1 J1)) (by kernel_rfl) (S.c3 0 rfl) (fun hS => ?_)
  generalize w1.drew = w2 at S n1 d1 HH hS ⊢
  refine tk 0 hS ?_
  refine tk 1 hS ?_
  refine tk 3 hS ?_
  refine tk 4 hS ?_
  refine rd 2 fun KK hKK => ?_
  go_simp; clear hS
  refine (S.call (wneg_to ⟨_, _, _, by rw [hb1.out], n1⟩ HX.out.1 (-x.num) rfl)).mono ?_
  clear S
  rintro e w3 ⟨⟨_, rfl, pa, la, Ka, rfl, na⟩, S, H⟩
  replace n1 := n1.hold H; replace d1 := d1.hold H; replace HH := HH.trans H; clear H
  go_wp2_with fail
  refine ho hKK (S.c3 0 rfl) fun hS => ?_
  clear hKK KK
  refine rd 5 fun KK hKK => ?_
  go_simp; clear hS
  refine (S.call (clone_any d1 HX.out.2)).mono ?_
  clear S
  rintro e w4 ⟨⟨_, rfl, nc⟩, S, H⟩
  refine iv3 H n1 d1 na ?_; clear n1 d1 na; intro n1 d1 na; replace HH := HH.trans H; clear H
  obtain ⟨pc, lc, Kc, rfl⟩ := nc.form
  go_wp2_with fail
  refine ho hKK (S.c3 0 rfl) fun hS => ?_
  clear hKK KK
  refine tk 6 hS ?_
  refine rd 7 fun KK hKK => ?_
  obtain ⟨c0, c1, c2⟩ := S.c3 1 rfl; obtain ⟨f0, f1, f2⟩ := S.f3 1 rfl
  go_simp; clear hS c0 f0 c1 f1 c2 f2
  have HP := S.putq 1 (.bool (negB (-x.num))) (.slice pa la Ka) (.slice pc lc Kc) rfl rfl; have H := HP.2; replace S := HP.1; clear HP
  refine iv4 H n1 d1 na nc ?_; clear n1 d1 na nc; intro n1 d1 na nc; replace HH := HH.trans H; clear H
  refine ho hKK (S.c3 0 rfl) fun hS => ?_
  generalize (((w4.setCell ⟨w.heap.size + 1, 0, none⟩ (.bool (negB (-x.num)))).setCell ⟨w.heap.size + 1, 1, none⟩ (.slice pa la Ka)).setCell ⟨w.heap.size + 1, 2, none⟩ (.slice pc lc Kc)) = w5 at S n1 d1 na nc HH hS ⊢
  clear hKK KK
  refine wpAnyH_done (by kernel_rfl) ?_ _
  clear hS HH; obtain ⟨c0_0, c0_1, c0_2⟩ := S.c3 0 rfl; obtain ⟨c1_0, c1_1, c1_2⟩ := S.c3 1 rfl; go_wp2_with fail; obtain ⟨d1_0, d1_1, d1_2⟩ := S.c3 1 rfl
  exact bodyPost_ret (v := .agg #[.bool (negB (-x.num)), .slice pa la Ka, .slice pc lc Kc]) (by simp [results, Tryz.f78, go_sem, d1_0, d1_1, d1_2]) rfl (⟨⟨_, rfl, _, pa, la, Ka, pc, lc, Kc, rfl, by rw [HQ.out.1]; rfl, by rw [HQ.out.1]; exact na, by rw [HQ.out.2]; exact nc⟩, S.below⟩)
set_option maxRecDepth 100000 in
set_option maxHeartbeats 4000000 in
theorem rsub_any {va vb : Value} {x y : Rat} {w : World} (ha : IsRat w va x) (hb : IsRat w vb y) {k1 k2 : Nat} (hx : RB x k1) (hy : RB y k2) (hk : k1 + k2 ≤ 511) (q : Rat) (hq : x - y = q) :
    Calls Tryz.prog 21 #[va, vb] w fun e w' => (∃ u, e = .returned (.tuple #[u, .int .i64 0]) ∧ IsRat w' u q) ∧ Below w.heap.size w w' := by
  obtain ⟨b1, p1, l1, K1, q1, j1, J1, rfl, hb1, n1, d1⟩ := ha
  obtain ⟨b2, p2, l2, K2, q2, j2, J2, rfl, hb2, n2, d2⟩ := hb
  have HB := Lib.hid (And.intro hx (And.intro hy hk))
  have HY := Lib.hid (rb_max hy (by omega))
  have HQ := Lib.hid (show x + -y = q by rw [← Rat.sub_eq_add_neg]; exact hq)
  clear hx hy hk hq
  have S := (((St.start w).alloc 34 [.bool b1, .slice p1 l1 K1, .slice q1 j1 J1] (w.heap.size)).alloc 34 [.bool b2, .slice p2 l2 K2, .slice q2 j2 J2] (w.heap.size + 1)).alloc 34 [.bool false, .slice none 0 0, .slice none 0 0] (w.heap.size + 1 + 1)
  try simp only [List.cons_append, List.nil_append] at S
  refine iv4 S.hold n1 d1 n2 d2 ?_; clear n1 d1 n2 d2; intro n1 d1 n2 d2
  obtain ⟨c0_0, c0_1, c0_2⟩ := S.c3 0 rfl; obtain ⟨c1_0, c1_1, c1_2⟩ := S.c3 1 rfl; obtain ⟨c2_0, c2_1, c2_2⟩ := S.c3 2 rfl
  go_enter Tryz.func21, Tryz.ntmps21
  go_upto_region 1 with fail
  clear c0_0 c0_1 c0_2 c1_0 c1_1 c1_2 c2_0 c2_1 c2_2
  generalize (((w.alloc (.cells #[.bool b1, .slice p1 l1 K1, .slice q1 j1 J1] 34)).alloc (.cells #[.bool b2, .slice p2 l2 K2, .slice q2 j2 J2] 34)).alloc (.cells #[.bool false, .slice none 0 0, .slice none 0 0] 34)) = w1 at S n1 d1 n2 d2 ⊢
  have HH := Hold.drew w1
  refine iv4 HH n1 d1 n2 d2 ?_; clear n1 d1 n2 d2; intro n1 d1 n2 d2
  replace S := S.drew
  refine wp_region_held_drew (S := fun W => W.cell? ⟨w.heap.size, 0, none⟩ = some (.bool b1) ∧ W.cell? ⟨w.heap.size, 1, none⟩ = some (.slice p1 l1 K1) ∧ W.cell? ⟨w.heap.size, 2, none⟩ = some (.slice q1 j1 J1) ∧ W.cell? ⟨w.heap.size + 1, 0, none⟩ = some (.bool b2) ∧ W.cell? ⟨w.heap.size + 1, 1, none⟩ = some (.slice p2 l2 K2) ∧ W.cell? ⟨w.heap.size + 1, 2, none⟩ = some (.slice q2 j2 J2)) (by kernel_rfl) (con3 (S.c3 0 rfl) (S.c3 1 rfl)) (fun hS => ?_)
  generalize w1.drew = w2 at S n1 d1 n2 d2 HH hS ⊢
  refine tk 0 hS ?_
  refine tk 1 hS ?_
  refine rd 2 fun KK hKK => ?_
  go_simp; clear hS
  refine (S.call (rneg_any ⟨b2, p2, l2, K2, q2, j2, J2, rfl, hb2, n2, d2⟩ HY.out (-y) rfl)).mono ?_
  clear S
  rintro e w3 ⟨⟨_, rfl, ba, pa, la, Ka, qa, ja, Ja, rfl, ha, na, da⟩, S, H⟩
  refine iv4 H n1 d1 n2 d2 ?_; clear n1 d1 n2 d2; intro n1 d1 n2 d2; replace HH := HH.trans H; clear H
  go_wp2_with fail
  refine ho hKK (con3 (S.c3 0 rfl) (S.c3 1 rfl)) fun hS => ?_
  clear hKK KK
  refine rd 3 fun KK hKK => ?_
  go_simp; clear hS
  refine (S.call (radd_any ⟨b1, p1, l1, K1, q1, j1, J1, rfl, hb1, n1, d1⟩ ⟨ba, pa, la, Ka, qa, ja, Ja, rfl, ha, na, da⟩ HB.out.1 (rb_neg HB.out.2.1) HB.out.2.2 q HQ.out)).mono ?_
  clear S
  rintro e w4 ⟨⟨_, rfl, b, p, l, K, q', j, J, rfl, hb, nn, dd⟩, S, H⟩
  refine iv6 H n1 d1 n2 d2 na da ?_; clear n1 d1 n2 d2 na da; intro n1 d1 n2 d2 na da; replace HH := HH.trans H; clear H
  go_wp2_with fail
  refine ho hKK (con3 (S.c3 0 rfl) (S.c3 1 rfl)) fun hS => ?_
  clear hKK KK
  refine tk 4 hS ?_
  refine tk 5 hS ?_
  refine rd 6 fun KK hKK => ?_
  obtain ⟨c0, c1, c2⟩ := S.c3 2 rfl; obtain ⟨f0, f1, f2⟩ := S.f3 2 rfl
  go_simp; clear hS c0 f0 c1 f1 c2 f2
  have HP := S.putq 2 (.bool b) (.slice p l K) (.slice q' j J) rfl rfl; have H := HP.2; replace S := HP.1; clear HP
  refine iv8 H n1 d1 n2 d2 na da nn dd ?_; clear n1 d1 n2 d2 na da nn dd; intro n1 d1 n2 d2 na da nn dd; replace HH := HH.trans H; clear H
  refine ho hKK (con3 (S.c3 0 rfl) (S.c3 1 rfl)) fun hS => ?_
  generalize (((w4.setCell ⟨w.heap.size + 1 + 1, 0, none⟩ (.bool b)).setCell ⟨w.heap.size + 1 + 1, 1, none⟩ (.slice p l K)).setCell ⟨w.heap.size + 1 + 1, 2, none⟩ (.slice q' j J)) = w5 at S n1 d1 n2 d2 na da nn dd HH hS ⊢
  clear hKK KK
  refine rd 7 fun KK hKK => ?_
  go_simp
  refine ho hKK hS fun hS => ?_
  clear hKK KK
  refine wpAnyH_done (by kernel_rfl) ?_ _
  clear hS HH; obtain ⟨c0_0, c0_1, c0_2⟩ := S.c3 0 rfl; obtain ⟨c1_0, c1_1, c1_2⟩ := S.c3 1 rfl; obtain ⟨c2_0, c2_1, c2_2⟩ := S.c3 2 rfl; go_wp2_with fail; obtain ⟨d2_0, d2_1, d2_2⟩ := S.c3 2 rfl
  exact bodyPost_ret (v := .tuple #[.agg #[.bool b, .slice p l K, .slice q' j J], .int .i64 0]) (by simp [results, Tryz.f21, go_sem, d2_0, d2_1, d2_2]) rfl (⟨⟨_, rfl, b, p, l, K, q', j, J, rfl, hb, nn, dd⟩, S.below⟩)
end Go.Proofs.YtcdmojefheipoaaGreatDoor
