/-
  What the statement stands on.
-/
import Derived.Test.YtcfgefbkeeedgaaGreatDoorM21
namespace Go.Proofs.YtcfgefbkeeedgaaGreatDoor
open Go.RowKit
def divI (n d : Int) (up : Bool) : Int := if up = true ∧ 0 < n % d then n / d + 1 else n / d
set_option maxRecDepth 100000 in
set_option maxHeartbeats 8000000 in
theorem divided_pos {va vb : Value} {n d : Int} {w : World} (ha : IsInt w va n) (hb : IsInt w vb d) (hn : n.natAbs < maxN) (hd : d.natAbs < maxN) (s : Nat) (hs : s ≤ 100000) (N D : Int) (hN : n * 2 ^ s = N) (hD : d = D) (hfit : n.natAbs * 2 ^ s < maxN) (hNm : N.natAbs < maxN) (hDm : D.natAbs < maxN) (hD0 : 0 < D) (up : Bool) (z : Int) (hz : divI N D up = z) (hzm : z.natAbs < maxN) :
    Calls Tryz.prog 139 #[va, vb, .int .i64 (s : Int), .bool up] w fun ev w' => (∃ u, ev = .returned (.tuple #[u, .int .i64 0]) ∧ IsInt w' u z) ∧ Below w.heap.size w w' := by
  obtain ⟨p1, l1, K1, rfl, n1⟩ := ha
  obtain ⟨p2, l2, K2, rfl, n2⟩ := hb
  obtain ⟨b1, hb1⟩ : ∃ b1, negB n = b1 := ⟨_, rfl⟩
  obtain ⟨b2, hb2⟩ : ∃ b2, negB d = b2 := ⟨_, rfl⟩
  rw [hb1, hb2]
  have hsI : ¬ (s : Int) < 0 := by omega
  obtain ⟨q, hq⟩ : ∃ q, N / D = q := ⟨_, rfl⟩
  obtain ⟨r, hr⟩ : ∃ r, N % D = r := ⟨_, rfl⟩
  have hr0 : 0 ≤ r := by rw [← hr]; exact Int.emod_nonneg N (by omega)
  have hqm : q.natAbs < maxN := by rw [← hq]; exact Nat.lt_of_le_of_lt (Int.natAbs_ediv_le_natAbs _ _) hNm
  have hrm : r.natAbs < maxN := by have := Int.emod_lt_of_pos N hD0; omega
  have hzq : z = if up = true ∧ 0 < r then q + 1 else q := by rw [← hz]; unfold divI; rw [hq, hr]
  have HD := Lib.hid (And.intro hn (And.intro hd (And.intro (show s ≤ 9223372036854775807 by omega) (And.intro hN (And.intro hD (And.intro hfit (And.intro hb1 hb2)))))))
  have HQ := Lib.hid (And.intro hq (And.intro hr (And.intro hqm (And.intro hrm (And.intro hzm (And.intro hNm (And.intro hDm (show D ≠ 0 by omega))))))))
  clear hn hd hs hN hD hfit hb1 hb2 hq hr hqm hrm hzm hNm hDm hD0 hz
  obtain ⟨g, hg⟩ : ∃ g, r.sign = g := ⟨_, rfl⟩
  have HG := Lib.hid hg
  cases up with
  | false =>
    have HZ : z = q := by rw [hzq]; simp
    clear hzq hg
    have S := (((St.start w).alloc 25 [.bool b1, .slice p1 l1 K1] (w.heap.size)).alloc 25 [.bool b2, .slice p2 l2 K2] (w.heap.size + 1)).alloc 25 [.bool false, .slice none 0 0] (w.heap.size + 1 + 1)
    try simp only [List.cons_append, List.nil_append] at S
    replace n1 := n1.hold S.hold; replace n2 := n2.hold S.hold
    have c0_0 := S.c 0 0 rfl rfl; have c0_1 := S.c 0 1 rfl rfl; have c1_0 := S.c 1 0 rfl rfl; have c1_1 := S.c 1 1 rfl rfl; have c2_0 := S.c 2 0 rfl rfl; have c2_1 := S.c 2 1 rfl rfl
    go_enter Tryz.func139, Tryz.ntmps139
    go_wp2_with fail; clear c0_0 c0_1 c1_0 c1_1 c2_0 c2_1
    refine (S.call (wleft_any ⟨_, _, _, by rw [HD.out.2.2.2.2.2.2.1], n1⟩ HD.out.1 s HD.out.2.2.1 HD.out.2.2.2.2.2.1 N HD.out.2.2.2.1)).mono ?_
    clear S
    rintro e w1 ⟨⟨_, rfl, pN, lN, KN, rfl, nN⟩, S, H⟩
    replace n1 := n1.hold H; replace n2 := n2.hold H
    clear H; have c0_0 := S.c 0 0 rfl rfl; have c0_1 := S.c 0 1 rfl rfl; have c1_0 := S.c 1 0 rfl rfl; have c1_1 := S.c 1 1 rfl rfl; have c2_0 := S.c 2 0 rfl rfl; have c2_1 := S.c 2 1 rfl rfl; have f0_0 := S.f 0 0 rfl
    have H := S.hset 0 0 (.bool (negB N)) rfl rfl (by intro q n e; cases e)
    replace S := S.set 0 0 (.bool (negB N)) rfl
    refine iv3 H n1 n2 nN ?_; clear n1 n2 nN; intro n1 n2 nN
    clear H; have f0_1 := S.f 0 1 rfl
    have H := S.hset 0 1 (.slice pN lN KN) rfl rfl (by intro q n e; cases e)
    replace S := S.set 0 1 (.slice pN lN KN) rfl
    refine iv3 H n1 n2 nN ?_; clear n1 n2 nN; intro n1 n2 nN
    clear H; have c0_0 := S.c 0 0 rfl rfl; have c0_1 := S.c 0 1 rfl rfl; have c1_0 := S.c 1 0 rfl rfl; have c1_1 := S.c 1 1 rfl rfl; go_wp2_with fail; clear c0_0 c0_1 c1_0 c1_1 c2_0 c2_1 f0_0 f0_1; clear c0_0 c0_1 c1_0 c1_1
    refine (S.call (wdiv_to ⟨_, _, _, rfl, nN⟩ ⟨_, _, _, by rw [← HD.out.2.2.2.2.1, HD.out.2.2.2.2.2.2.2], by rw [← HD.out.2.2.2.2.1]; exact n2⟩ HQ.out.2.2.2.2.2.1 HQ.out.2.2.2.2.2.2.1 q r HQ.out.2.2.2.2.2.2.2 HQ.out.1 HQ.out.2.1)).mono ?_
    clear S
    rintro e w2 ⟨⟨_, _, rfl, ⟨pq, lq, Kq, rfl, nq⟩, ⟨pr, lr, Kr, rfl, nr⟩⟩, S, H⟩
    refine iv3 H n1 n2 nN ?_; clear n1 n2 nN; intro n1 n2 nN
    clear H; have c0_0 := S.c 0 0 rfl rfl; have c0_1 := S.c 0 1 rfl rfl; have c1_0 := S.c 1 0 rfl rfl; have c1_1 := S.c 1 1 rfl rfl; have c2_0 := S.c 2 0 rfl rfl; have c2_1 := S.c 2 1 rfl rfl
    have H := S.hnew 25 [.bool (negB q), .slice pq lq Kq]
    replace S := S.al 25 [.bool (negB q), .slice pq lq Kq] (w2.heap.size)
    refine iv5 H n1 n2 nN nq nr ?_; clear n1 n2 nN nq nr; intro n1 n2 nN nq nr
    clear H
    have H := S.hnew 25 [.bool (negB r), .slice pr lr Kr]
    replace S := S.al 25 [.bool (negB r), .slice pr lr Kr] (w2.heap.size + 1)
    refine iv5 H n1 n2 nN nq nr ?_; clear n1 n2 nN nq nr; intro n1 n2 nN nq nr
    clear H; clear c0_0 c0_1 c1_0 c1_1 c2_0 c2_1; have c0_0 := S.c 0 0 rfl rfl; have c0_1 := S.c 0 1 rfl rfl; have c1_0 := S.c 1 0 rfl rfl; have c1_1 := S.c 1 1 rfl rfl; have c2_0 := S.c 2 0 rfl rfl; have c2_1 := S.c 2 1 rfl rfl; have c3_0 := S.c 3 0 rfl rfl; have c3_1 := S.c 3 1 rfl rfl; have c4_0 := S.c 4 0 rfl rfl; have c4_1 := S.c 4 1 rfl rfl
    subst HZ
    have f2_0 := S.f 2 0 rfl
    have H := S.hset 2 0 (.bool (negB z)) rfl rfl (by intro q n e; cases e)
    replace S := S.set 2 0 (.bool (negB z)) rfl
    refine iv5 H n1 n2 nN nq nr ?_; clear n1 n2 nN nq nr; intro n1 n2 nN nq nr
    clear H; have f2_1 := S.f 2 1 rfl
    have H := S.hset 2 1 (.slice pq lq Kq) rfl rfl (by intro q n e; cases e)
    replace S := S.set 2 1 (.slice pq lq Kq) rfl
    refine iv5 H n1 n2 nN nq nr ?_; clear n1 n2 nN nq nr; intro n1 n2 nN nq nr
    clear H; go_wp2_with fail; have d2_0 := S.c 2 0 rfl rfl; have d2_1 := S.c 2 1 rfl rfl
    exact bodyPost_ret (v := .tuple #[.agg #[.bool (negB z), .slice pq lq Kq], .int .i64 0]) (by simp [results, Tryz.f139, go_sem, d2_0, d2_1]) rfl (⟨⟨_, rfl, pq, lq, Kq, rfl, nq⟩, S.below⟩)
  | true =>
    by_cases h0 : 0 < r
    · have HZ := Lib.hid (show q + 1 = z by rw [hzq, if_pos ⟨rfl, h0⟩])
      have hg1 : g = 1 := by rw [← hg]; exact Int.sign_eq_one_of_pos h0
      subst hg1
      clear hzq hg h0 hr0
      have S := (((St.start w).alloc 25 [.bool b1, .slice p1 l1 K1] (w.heap.size)).alloc 25 [.bool b2, .slice p2 l2 K2] (w.heap.size + 1)).alloc 25 [.bool false, .slice none 0 0] (w.heap.size + 1 + 1)
      try simp only [List.cons_append, List.nil_append] at S
      replace n1 := n1.hold S.hold; replace n2 := n2.hold S.hold
      have c0_0 := S.c 0 0 rfl rfl; have c0_1 := S.c 0 1 rfl rfl; have c1_0 := S.c 1 0 rfl rfl; have c1_1 := S.c 1 1 rfl rfl; have c2_0 := S.c 2 0 rfl rfl; have c2_1 := S.c 2 1 rfl rfl
      go_enter Tryz.func139, Tryz.ntmps139
      go_wp2_with fail; clear c0_0 c0_1 c1_0 c1_1 c2_0 c2_1
      refine (S.call (wleft_any ⟨_, _, _, by rw [HD.out.2.2.2.2.2.2.1], n1⟩ HD.out.1 s HD.out.2.2.1 HD.out.2.2.2.2.2.1 N HD.out.2.2.2.1)).mono ?_
      clear S
      rintro e w1 ⟨⟨_, rfl, pN, lN, KN, rfl, nN⟩, S, H⟩
      replace n1 := n1.hold H; replace n2 := n2.hold H
      clear H; have c0_0 := S.c 0 0 rfl rfl; have c0_1 := S.c 0 1 rfl rfl; have c1_0 := S.c 1 0 rfl rfl; have c1_1 := S.c 1 1 rfl rfl; have c2_0 := S.c 2 0 rfl rfl; have c2_1 := S.c 2 1 rfl rfl; have f0_0 := S.f 0 0 rfl
      have H := S.hset 0 0 (.bool (negB N)) rfl rfl (by intro q n e; cases e)
      replace S := S.set 0 0 (.bool (negB N)) rfl
      refine iv3 H n1 n2 nN ?_; clear n1 n2 nN; intro n1 n2 nN
      clear H; have f0_1 := S.f 0 1 rfl
      have H := S.hset 0 1 (.slice pN lN KN) rfl rfl (by intro q n e; cases e)
      replace S := S.set 0 1 (.slice pN lN KN) rfl
      refine iv3 H n1 n2 nN ?_; clear n1 n2 nN; intro n1 n2 nN
      clear H; have c0_0 := S.c 0 0 rfl rfl; have c0_1 := S.c 0 1 rfl rfl; have c1_0 := S.c 1 0 rfl rfl; have c1_1 := S.c 1 1 rfl rfl; go_wp2_with fail; clear c0_0 c0_1 c1_0 c1_1 c2_0 c2_1 f0_0 f0_1; clear c0_0 c0_1 c1_0 c1_1
      refine (S.call (wdiv_to ⟨_, _, _, rfl, nN⟩ ⟨_, _, _, by rw [← HD.out.2.2.2.2.1, HD.out.2.2.2.2.2.2.2], by rw [← HD.out.2.2.2.2.1]; exact n2⟩ HQ.out.2.2.2.2.2.1 HQ.out.2.2.2.2.2.2.1 q r HQ.out.2.2.2.2.2.2.2 HQ.out.1 HQ.out.2.1)).mono ?_
      clear S
      rintro e w2 ⟨⟨_, _, rfl, ⟨pq, lq, Kq, rfl, nq⟩, ⟨pr, lr, Kr, rfl, nr⟩⟩, S, H⟩
      refine iv3 H n1 n2 nN ?_; clear n1 n2 nN; intro n1 n2 nN
      clear H; have c0_0 := S.c 0 0 rfl rfl; have c0_1 := S.c 0 1 rfl rfl; have c1_0 := S.c 1 0 rfl rfl; have c1_1 := S.c 1 1 rfl rfl; have c2_0 := S.c 2 0 rfl rfl; have c2_1 := S.c 2 1 rfl rfl
      have H := S.hnew 25 [.bool (negB q), .slice pq lq Kq]
      replace S := S.al 25 [.bool (negB q), .slice pq lq Kq] (w2.heap.size)
      refine iv5 H n1 n2 nN nq nr ?_; clear n1 n2 nN nq nr; intro n1 n2 nN nq nr
      clear H
      have H := S.hnew 25 [.bool (negB r), .slice pr lr Kr]
      replace S := S.al 25 [.bool (negB r), .slice pr lr Kr] (w2.heap.size + 1)
      refine iv5 H n1 n2 nN nq nr ?_; clear n1 n2 nN nq nr; intro n1 n2 nN nq nr
      clear H; clear c0_0 c0_1 c1_0 c1_1 c2_0 c2_1; have c0_0 := S.c 0 0 rfl rfl; have c0_1 := S.c 0 1 rfl rfl; have c1_0 := S.c 1 0 rfl rfl; have c1_1 := S.c 1 1 rfl rfl; have c2_0 := S.c 2 0 rfl rfl; have c2_1 := S.c 2 1 rfl rfl; have c3_0 := S.c 3 0 rfl rfl; have c3_1 := S.c 3 1 rfl rfl; have c4_0 := S.c 4 0 rfl rfl; have c4_1 := S.c 4 1 rfl rfl; go_wp2_with fail; clear c0_0 c0_1 c1_0 c1_1 c2_0 c2_1 c3_0 c3_1 c4_0 c4_1
      refine (S.call (wsign_any ⟨_, _, _, rfl, nr⟩ HQ.out.2.2.2.1 HG.out)).mono ?_
      clear S
      rintro e w3 ⟨rfl, S, H⟩
      refine iv5 H n1 n2 nN nq nr ?_; clear n1 n2 nN nq nr; intro n1 n2 nN nq nr
      clear H; have c0_0 := S.c 0 0 rfl rfl; have c0_1 := S.c 0 1 rfl rfl; have c1_0 := S.c 1 0 rfl rfl; have c1_1 := S.c 1 1 rfl rfl; have c2_0 := S.c 2 0 rfl rfl; have c2_1 := S.c 2 1 rfl rfl; have c3_0 := S.c 3 0 rfl rfl; have c3_1 := S.c 3 1 rfl rfl; have c4_0 := S.c 4 0 rfl rfl; have c4_1 := S.c 4 1 rfl rfl
      go_upto_region 9 with fail
      clear c0_0 c0_1 c1_0 c1_1 c2_0 c2_1 c3_0 c3_1 c4_0 c4_1
      go_cut [10] (fun s10 wx => ∃ py ly Ky, s10 = .int .i64 0 ∧ St w wx [(w.heap.size, 25, [.bool (negB N), .slice pN lN KN]), (w.heap.size + 1, 25, [.bool b2, .slice p2 l2 K2]), (w.heap.size + 1 + 1, 25, [.bool false, .slice none 0 0]), (w2.heap.size, 25, [.bool (negB z), .slice py ly Ky]), (w2.heap.size + 1, 25, [.bool (negB r), .slice pr lr Kr])] ∧ IsNat wx (.slice py ly Ky) z.natAbs ∧ Hold w3 wx)
      case first =>
        have HH := Hold.drew w3
        refine iv5 HH n1 n2 nN nq nr ?_; clear n1 n2 nN nq nr; intro n1 n2 nN nq nr
        replace S := S.drew
        refine wp_region_held_drew (S := fun W => True) (by kernel_rfl) trivial (fun hS => ?_)
        generalize w3.drew = w4 at S n1 n2 nN nq nr HH hS ⊢
        refine wpAnyH_ready (rs := [0, 1]) (by kernel_rfl) (by simp) (AllReadyH.cons (opOf rfl) (fun KK hKK => ?_) (AllReadyH.cons (opOf rfl) (fun KK hKK => ?_) AllReadyH.nil))
        ·
          have c3_0 := S.c 3 0 rfl rfl; have c3_1 := S.c 3 1 rfl rfl; go_simp; clear c3_0 c3_1
          refine ho hKK hS fun hS => ?_
          clear hKK KK
          refine rd 1 fun KK hKK => ?_
          go_simp; clear hS
          refine (S.call (wof_any 1 _ (by decide) (by decide))).mono ?_
          clear S
          rintro e w5 ⟨⟨_, rfl, po, lo, Ko, rfl, no⟩, S, H⟩
          refine iv5 H n1 n2 nN nq nr ?_; clear n1 n2 nN nq nr; intro n1 n2 nN nq nr; replace HH := HH.trans H; clear H
          go_wp2_with fail
          refine ho hKK trivial fun hS => ?_
          clear hKK KK
          refine rd 2 fun KK hKK => ?_
          go_simp; clear hS
          refine (S.call (wadd_to ⟨_, _, _, rfl, nq⟩ ⟨_, _, _, rfl, no⟩ HQ.out.2.2.1 (lt_maxN (by decide)) z HZ.out HQ.out.2.2.2.2.1)).mono ?_
          clear S
          rintro e w6 ⟨⟨_, rfl, py, ly, Ky, rfl, ny⟩, S, H⟩
          refine iv6 H n1 n2 nN nq nr no ?_; clear n1 n2 nN nq nr no; intro n1 n2 nN nq nr no; replace HH := HH.trans H; clear H
          go_wp2_with fail
          refine ho hKK trivial fun hS => ?_
          clear hKK KK
          refine tk 3 hS ?_
          refine tk 4 hS ?_
          refine tk 5 hS ?_
          refine rd 6 fun KK hKK => ?_
          have c0 := S.c 3 0 rfl rfl; have f0 := S.f 3 0 rfl; have c1 := S.c 3 1 rfl rfl; have f1 := S.f 3 1 rfl; go_simp; clear hS c0 f0 c1 f1
          have H := S.hset 3 0 (.bool (negB z)) rfl rfl (by intro q n e; cases e)
          replace S := S.set 3 0 (.bool (negB z)) rfl
          refine iv7 H n1 n2 nN nq nr no ny ?_; clear n1 n2 nN nq nr no ny; intro n1 n2 nN nq nr no ny; replace HH := HH.trans H; clear H
          have H := S.hset 3 1 (.slice py ly Ky) rfl rfl (by intro q n e; cases e)
          replace S := S.set 3 1 (.slice py ly Ky) rfl
          refine iv7 H n1 n2 nN nq nr no ny ?_; clear n1 n2 nN nq nr no ny; intro n1 n2 nN nq nr no ny; replace HH := HH.trans H; clear H
          refine ho hKK trivial fun hS => ?_
          generalize ((w6.setCell ⟨w2.heap.size, 0, none⟩ (.bool (negB z))).setCell ⟨w2.heap.size, 1, none⟩ (.slice py ly Ky)) = w7 at S n1 n2 nN nq nr no ny HH hS ⊢
          clear hKK KK
          refine rd 7 fun KK hKK => ?_
          go_simp
          refine ho hKK hS fun hS => ?_
          clear hKK KK
          refine wpAnyH_done (by kernel_rfl) ?_ _
          go_wp2_with fail
          go_meet
          case rel => exact ⟨py, ly, Ky, rfl, S, ny, HH⟩
        ·
          go_simp; clear hS
          refine (S.call (wof_any 1 _ (by decide) (by decide))).mono ?_
          clear S
          rintro e w8 ⟨⟨_, rfl, po, lo, Ko, rfl, no⟩, S, H⟩
          refine iv5 H n1 n2 nN nq nr ?_; clear n1 n2 nN nq nr; intro n1 n2 nN nq nr; replace HH := HH.trans H; clear H
          go_wp2_with fail
          refine ho hKK trivial fun hS => ?_
          clear hKK KK
          refine rd 0 fun KK hKK => ?_
          have c3_0 := S.c 3 0 rfl rfl; have c3_1 := S.c 3 1 rfl rfl; go_simp; clear c3_0 c3_1
          refine ho hKK hS fun hS => ?_
          clear hKK KK
          refine rd 2 fun KK hKK => ?_
          go_simp; clear hS
          refine (S.call (wadd_to ⟨_, _, _, rfl, nq⟩ ⟨_, _, _, rfl, no⟩ HQ.out.2.2.1 (lt_maxN (by decide)) z HZ.out HQ.out.2.2.2.2.1)).mono ?_
          clear S
          rintro e w9 ⟨⟨_, rfl, py, ly, Ky, rfl, ny⟩, S, H⟩
          refine iv6 H n1 n2 nN nq nr no ?_; clear n1 n2 nN nq nr no; intro n1 n2 nN nq nr no; replace HH := HH.trans H; clear H
          go_wp2_with fail
          refine ho hKK trivial fun hS => ?_
          clear hKK KK
          refine tk 3 hS ?_
          refine tk 4 hS ?_
          refine tk 5 hS ?_
          refine rd 6 fun KK hKK => ?_
          have c0 := S.c 3 0 rfl rfl; have f0 := S.f 3 0 rfl; have c1 := S.c 3 1 rfl rfl; have f1 := S.f 3 1 rfl; go_simp; clear hS c0 f0 c1 f1
          have H := S.hset 3 0 (.bool (negB z)) rfl rfl (by intro q n e; cases e)
          replace S := S.set 3 0 (.bool (negB z)) rfl
          refine iv7 H n1 n2 nN nq nr no ny ?_; clear n1 n2 nN nq nr no ny; intro n1 n2 nN nq nr no ny; replace HH := HH.trans H; clear H
          have H := S.hset 3 1 (.slice py ly Ky) rfl rfl (by intro q n e; cases e)
          replace S := S.set 3 1 (.slice py ly Ky) rfl
          refine iv7 H n1 n2 nN nq nr no ny ?_; clear n1 n2 nN nq nr no ny; intro n1 n2 nN nq nr no ny; replace HH := HH.trans H; clear H
          refine ho hKK trivial fun hS => ?_
          generalize ((w9.setCell ⟨w2.heap.size, 0, none⟩ (.bool (negB z))).setCell ⟨w2.heap.size, 1, none⟩ (.slice py ly Ky)) = w10 at S n1 n2 nN nq nr no ny HH hS ⊢
          clear hKK KK
          refine rd 7 fun KK hKK => ?_
          go_simp
          refine ho hKK hS fun hS => ?_
          clear hKK KK
          refine wpAnyH_done (by kernel_rfl) ?_ _
          go_wp2_with fail
          go_meet
          case rel => exact ⟨py, ly, Ky, rfl, S, ny, HH⟩
      case rest =>
        obtain ⟨py, ly, Ky, rfl, S, ny, HH⟩ := hcut
        obtain ⟨w11, rfl⟩ : ∃ W : World, W = wc := ⟨_, rfl⟩
        refine iv5 HH n1 n2 nN nq nr ?_; clear n1 n2 nN nq nr; intro n1 n2 nN nq nr; clear HH; have c0_0 := S.c 0 0 rfl rfl; have c0_1 := S.c 0 1 rfl rfl; have c1_0 := S.c 1 0 rfl rfl; have c1_1 := S.c 1 1 rfl rfl; have c2_0 := S.c 2 0 rfl rfl; have c2_1 := S.c 2 1 rfl rfl; have c3_0 := S.c 3 0 rfl rfl; have c3_1 := S.c 3 1 rfl rfl; have c4_0 := S.c 4 0 rfl rfl; have c4_1 := S.c 4 1 rfl rfl; have f2_0 := S.f 2 0 rfl
        have H := S.hset 2 0 (.bool (negB z)) rfl rfl (by intro q n e; cases e)
        replace S := S.set 2 0 (.bool (negB z)) rfl
        refine iv6 H n1 n2 nN nq nr ny ?_; clear n1 n2 nN nq nr ny; intro n1 n2 nN nq nr ny
        clear H; have f2_1 := S.f 2 1 rfl
        have H := S.hset 2 1 (.slice py ly Ky) rfl rfl (by intro q n e; cases e)
        replace S := S.set 2 1 (.slice py ly Ky) rfl
        refine iv6 H n1 n2 nN nq nr ny ?_; clear n1 n2 nN nq nr ny; intro n1 n2 nN nq nr ny
        clear H; go_wp2_with fail; have d2_0 := S.c 2 0 rfl rfl; have d2_1 := S.c 2 1 rfl rfl
        exact bodyPost_ret (v := .tuple #[.agg #[.bool (negB z), .slice py ly Ky], .int .i64 0]) (by simp [results, Tryz.f139, go_sem, d2_0, d2_1]) rfl (⟨⟨_, rfl, py, ly, Ky, rfl, ny⟩, S.below⟩)
    · have HZ : z = q := by rw [hzq, if_neg (by rintro ⟨_, h⟩; exact h0 h)]
      have hg1 : g = 0 := by rw [← hg, show r = 0 by omega]; rfl
      subst hg1
      clear hzq hg h0 hr0
      have S := (((St.start w).alloc 25 [.bool b1, .slice p1 l1 K1] (w.heap.size)).alloc 25 [.bool b2, .slice p2 l2 K2] (w.heap.size + 1)).alloc 25 [.bool false, .slice none 0 0] (w.heap.size + 1 + 1)
      try simp only [List.cons_append, List.nil_append] at S
      replace n1 := n1.hold S.hold; replace n2 := n2.hold S.hold
      have c0_0 := S.c 0 0 rfl rfl; have c0_1 := S.c 0 1 rfl rfl; have c1_0 := S.c 1 0 rfl rfl; have c1_1 := S.c 1 1 rfl rfl; have c2_0 := S.c 2 0 rfl rfl; have c2_1 := S.c 2 1 rfl rfl
      go_enter Tryz.func139, Tryz.ntmps139
      go_wp2_with fail; clear c0_0 c0_1 c1_0 c1_1 c2_0 c2_1
      refine (S.call (wleft_any ⟨_, _, _, by rw [HD.out.2.2.2.2.2.2.1], n1⟩ HD.out.1 s HD.out.2.2.1 HD.out.2.2.2.2.2.1 N HD.out.2.2.2.1)).mono ?_
      clear S
      rintro e w1 ⟨⟨_, rfl, pN, lN, KN, rfl, nN⟩, S, H⟩
      replace n1 := n1.hold H; replace n2 := n2.hold H
      clear H; have c0_0 := S.c 0 0 rfl rfl; have c0_1 := S.c 0 1 rfl rfl; have c1_0 := S.c 1 0 rfl rfl; have c1_1 := S.c 1 1 rfl rfl; have c2_0 := S.c 2 0 rfl rfl; have c2_1 := S.c 2 1 rfl rfl; have f0_0 := S.f 0 0 rfl
      have H := S.hset 0 0 (.bool (negB N)) rfl rfl (by intro q n e; cases e)
      replace S := S.set 0 0 (.bool (negB N)) rfl
      refine iv3 H n1 n2 nN ?_; clear n1 n2 nN; intro n1 n2 nN
      clear H; have f0_1 := S.f 0 1 rfl
      have H := S.hset 0 1 (.slice pN lN KN) rfl rfl (by intro q n e; cases e)
      replace S := S.set 0 1 (.slice pN lN KN) rfl
      refine iv3 H n1 n2 nN ?_; clear n1 n2 nN; intro n1 n2 nN
      clear H; have c0_0 := S.c 0 0 rfl rfl; have c0_1 := S.c 0 1 rfl rfl; have c1_0 := S.c 1 0 rfl rfl; have c1_1 := S.c 1 1 rfl rfl; go_wp2_with fail; clear c0_0 c0_1 c1_0 c1_1 c2_0 c2_1 f0_0 f0_1; clear c0_0 c0_1 c1_0 c1_1
      refine (S.call (wdiv_to ⟨_, _, _, rfl, nN⟩ ⟨_, _, _, by rw [← HD.out.2.2.2.2.1, HD.out.2.2.2.2.2.2.2], by rw [← HD.out.2.2.2.2.1]; exact n2⟩ HQ.out.2.2.2.2.2.1 HQ.out.2.2.2.2.2.2.1 q r HQ.out.2.2.2.2.2.2.2 HQ.out.1 HQ.out.2.1)).mono ?_
      clear S
      rintro e w2 ⟨⟨_, _, rfl, ⟨pq, lq, Kq, rfl, nq⟩, ⟨pr, lr, Kr, rfl, nr⟩⟩, S, H⟩
      refine iv3 H n1 n2 nN ?_; clear n1 n2 nN; intro n1 n2 nN
      clear H; have c0_0 := S.c 0 0 rfl rfl; have c0_1 := S.c 0 1 rfl rfl; have c1_0 := S.c 1 0 rfl rfl; have c1_1 := S.c 1 1 rfl rfl; have c2_0 := S.c 2 0 rfl rfl; have c2_1 := S.c 2 1 rfl rfl
      have H := S.hnew 25 [.bool (negB q), .slice pq lq Kq]
      replace S := S.al 25 [.bool (negB q), .slice pq lq Kq] (w2.heap.size)
      refine iv5 H n1 n2 nN nq nr ?_; clear n1 n2 nN nq nr; intro n1 n2 nN nq nr
      clear H
      have H := S.hnew 25 [.bool (negB r), .slice pr lr Kr]
      replace S := S.al 25 [.bool (negB r), .slice pr lr Kr] (w2.heap.size + 1)
      refine iv5 H n1 n2 nN nq nr ?_; clear n1 n2 nN nq nr; intro n1 n2 nN nq nr
      clear H; clear c0_0 c0_1 c1_0 c1_1 c2_0 c2_1; have c0_0 := S.c 0 0 rfl rfl; have c0_1 := S.c 0 1 rfl rfl; have c1_0 := S.c 1 0 rfl rfl; have c1_1 := S.c 1 1 rfl rfl; have c2_0 := S.c 2 0 rfl rfl; have c2_1 := S.c 2 1 rfl rfl; have c3_0 := S.c 3 0 rfl rfl; have c3_1 := S.c 3 1 rfl rfl; have c4_0 := S.c 4 0 rfl rfl; have c4_1 := S.c 4 1 rfl rfl; go_wp2_with fail; clear c0_0 c0_1 c1_0 c1_1 c2_0 c2_1 c3_0 c3_1 c4_0 c4_1
      refine (S.call (wsign_any ⟨_, _, _, rfl, nr⟩ HQ.out.2.2.2.1 HG.out)).mono ?_
      clear S
      rintro e w3 ⟨rfl, S, H⟩
      refine iv5 H n1 n2 nN nq nr ?_; clear n1 n2 nN nq nr; intro n1 n2 nN nq nr
      clear H; have c0_0 := S.c 0 0 rfl rfl; have c0_1 := S.c 0 1 rfl rfl; have c1_0 := S.c 1 0 rfl rfl; have c1_1 := S.c 1 1 rfl rfl; have c2_0 := S.c 2 0 rfl rfl; have c2_1 := S.c 2 1 rfl rfl; have c3_0 := S.c 3 0 rfl rfl; have c3_1 := S.c 3 1 rfl rfl; have c4_0 := S.c 4 0 rfl rfl; have c4_1 := S.c 4 1 rfl rfl
      subst HZ
      have f2_0 := S.f 2 0 rfl
      have H := S.hset 2 0 (.bool (negB z)) rfl rfl (by intro q n e; cases e)
      replace S := S.set 2 0 (.bool (negB z)) rfl
      refine iv5 H n1 n2 nN nq nr ?_; clear n1 n2 nN nq nr; intro n1 n2 nN nq nr
      clear H; have f2_1 := S.f 2 1 rfl
      have H := S.hset 2 1 (.slice pq lq Kq) rfl rfl (by intro q n e; cases e)
      replace S := S.set 2 1 (.slice pq lq Kq) rfl
      refine iv5 H n1 n2 nN nq nr ?_; clear n1 n2 nN nq nr; intro n1 n2 nN nq nr
      clear H; go_wp2_with fail; have d2_0 := S.c 2 0 rfl rfl; have d2_1 := S.c 2 1 rfl rfl
      exact bodyPost_ret (v := .tuple #[.agg #[.bool (negB z), .slice pq lq Kq], .int .i64 0]) (by simp [results, Tryz.f139, go_sem, d2_0, d2_1]) rfl (⟨⟨_, rfl, pq, lq, Kq, rfl, nq⟩, S.below⟩)
set_option maxRecDepth 100000 in
set_option maxHeartbeats 8000000 in
theorem divided_neg {va vb : Value} {n d : Int} {w : World} (ha : IsInt w va n) (hb : IsInt w vb d) (hn : n.natAbs < maxN) (hd : d.natAbs < maxN) (s : Nat) (hs : s ≤ 100000) (hs1 : 1 ≤ s) (N D : Int) (hN : n = N) (hD : d * 2 ^ s = D) (hfit : d.natAbs * 2 ^ s < maxN) (hNm : N.natAbs < maxN) (hDm : D.natAbs < maxN) (hD0 : 0 < D) (up : Bool) (z : Int) (hz : divI N D up = z) (hzm : z.natAbs < maxN) :
    Calls Tryz.prog 139 #[va, vb, .int .i64 (-(s : Int)), .bool up] w fun ev w' => (∃ u, ev = .returned (.tuple #[u, .int .i64 0]) ∧ IsInt w' u z) ∧ Below w.heap.size w w' := by
  obtain ⟨p1, l1, K1, rfl, n1⟩ := ha
  obtain ⟨p2, l2, K2, rfl, n2⟩ := hb
  obtain ⟨b1, hb1⟩ : ∃ b1, negB n = b1 := ⟨_, rfl⟩
  obtain ⟨b2, hb2⟩ : ∃ b2, negB d = b2 := ⟨_, rfl⟩
  rw [hb1, hb2]
  have hsI : (-(s : Int)) < 0 := by omega
  have hwr : IntKind.i64.wrap (-(-(s : Int))) = (s : Int) := by rw [wrap_int (by omega) (by omega)]; omega
  have hwr2 : IntKind.i64.wrap (s : Int) = (s : Int) := wrap_int (by omega) (by omega)
  obtain ⟨q, hq⟩ : ∃ q, N / D = q := ⟨_, rfl⟩
  obtain ⟨r, hr⟩ : ∃ r, N % D = r := ⟨_, rfl⟩
  have hr0 : 0 ≤ r := by rw [← hr]; exact Int.emod_nonneg N (by omega)
  have hqm : q.natAbs < maxN := by rw [← hq]; exact Nat.lt_of_le_of_lt (Int.natAbs_ediv_le_natAbs _ _) hNm
  have hrm : r.natAbs < maxN := by have := Int.emod_lt_of_pos N hD0; omega
  have hzq : z = if up = true ∧ 0 < r then q + 1 else q := by rw [← hz]; unfold divI; rw [hq, hr]
  have HD := Lib.hid (And.intro hn (And.intro hd (And.intro (show s ≤ 9223372036854775807 by omega) (And.intro hN (And.intro hD (And.intro hfit (And.intro hb1 hb2)))))))
  have HQ := Lib.hid (And.intro hq (And.intro hr (And.intro hqm (And.intro hrm (And.intro hzm (And.intro hNm (And.intro hDm (show D ≠ 0 by omega))))))))
  clear hn hd hs hN hD hfit hb1 hb2 hq hr hqm hrm hzm hNm hDm hD0 hz hs1
  obtain ⟨g, hg⟩ : ∃ g, r.sign = g := ⟨_, rfl⟩
  have HG := Lib.hid hg
  cases up with
  | false =>
    have HZ : z = q := by rw [hzq]; simp
    clear hzq hg
    have S := (((St.start w).alloc 25 [.bool b1, .slice p1 l1 K1] (w.heap.size)).alloc 25 [.bool b2, .slice p2 l2 K2] (w.heap.size + 1)).alloc 25 [.bool false, .slice none 0 0] (w.heap.size + 1 + 1)
    try simp only [List.cons_append, List.nil_append] at S
    replace n1 := n1.hold S.hold; replace n2 := n2.hold S.hold
    have c0_0 := S.c 0 0 rfl rfl; have c0_1 := S.c 0 1 rfl rfl; have c1_0 := S.c 1 0 rfl rfl; have c1_1 := S.c 1 1 rfl rfl; have c2_0 := S.c 2 0 rfl rfl; have c2_1 := S.c 2 1 rfl rfl
    go_enter Tryz.func139, Tryz.ntmps139
    go_wp2_with fail; clear c0_0 c0_1 c1_0 c1_1 c2_0 c2_1
    refine (S.call (wleft_any ⟨_, _, _, by rw [HD.out.2.2.2.2.2.2.2], n2⟩ HD.out.2.1 s HD.out.2.2.1 HD.out.2.2.2.2.2.1 D HD.out.2.2.2.2.1)).mono ?_
    clear S
    rintro e w1 ⟨⟨_, rfl, pD, lD, KD, rfl, nD⟩, S, H⟩
    replace n1 := n1.hold H; replace n2 := n2.hold H
    clear H; have c0_0 := S.c 0 0 rfl rfl; have c0_1 := S.c 0 1 rfl rfl; have c1_0 := S.c 1 0 rfl rfl; have c1_1 := S.c 1 1 rfl rfl; have c2_0 := S.c 2 0 rfl rfl; have c2_1 := S.c 2 1 rfl rfl; have f1_0 := S.f 1 0 rfl
    have H := S.hset 1 0 (.bool (negB D)) rfl rfl (by intro q n e; cases e)
    replace S := S.set 1 0 (.bool (negB D)) rfl
    refine iv3 H n1 n2 nD ?_; clear n1 n2 nD; intro n1 n2 nD
    clear H; have f1_1 := S.f 1 1 rfl
    have H := S.hset 1 1 (.slice pD lD KD) rfl rfl (by intro q n e; cases e)
    replace S := S.set 1 1 (.slice pD lD KD) rfl
    refine iv3 H n1 n2 nD ?_; clear n1 n2 nD; intro n1 n2 nD
    clear H; have c0_0 := S.c 0 0 rfl rfl; have c0_1 := S.c 0 1 rfl rfl; have c1_0 := S.c 1 0 rfl rfl; have c1_1 := S.c 1 1 rfl rfl; go_wp2_with fail; clear c0_0 c0_1 c1_0 c1_1 c2_0 c2_1 f1_0 f1_1; clear c0_0 c0_1 c1_0 c1_1
    refine (S.call (wdiv_to ⟨_, _, _, by rw [← HD.out.2.2.2.1, HD.out.2.2.2.2.2.2.1], by rw [← HD.out.2.2.2.1]; exact n1⟩ ⟨_, _, _, rfl, nD⟩ HQ.out.2.2.2.2.2.1 HQ.out.2.2.2.2.2.2.1 q r HQ.out.2.2.2.2.2.2.2 HQ.out.1 HQ.out.2.1)).mono ?_
    clear S
    rintro e w2 ⟨⟨_, _, rfl, ⟨pq, lq, Kq, rfl, nq⟩, ⟨pr, lr, Kr, rfl, nr⟩⟩, S, H⟩
    refine iv3 H n1 n2 nD ?_; clear n1 n2 nD; intro n1 n2 nD
    clear H; have c0_0 := S.c 0 0 rfl rfl; have c0_1 := S.c 0 1 rfl rfl; have c1_0 := S.c 1 0 rfl rfl; have c1_1 := S.c 1 1 rfl rfl; have c2_0 := S.c 2 0 rfl rfl; have c2_1 := S.c 2 1 rfl rfl
    have H := S.hnew 25 [.bool (negB q), .slice pq lq Kq]
    replace S := S.al 25 [.bool (negB q), .slice pq lq Kq] (w2.heap.size)
    refine iv5 H n1 n2 nD nq nr ?_; clear n1 n2 nD nq nr; intro n1 n2 nD nq nr
    clear H
    have H := S.hnew 25 [.bool (negB r), .slice pr lr Kr]
    replace S := S.al 25 [.bool (negB r), .slice pr lr Kr] (w2.heap.size + 1)
    refine iv5 H n1 n2 nD nq nr ?_; clear n1 n2 nD nq nr; intro n1 n2 nD nq nr
    clear H; clear c0_0 c0_1 c1_0 c1_1 c2_0 c2_1; have c0_0 := S.c 0 0 rfl rfl; have c0_1 := S.c 0 1 rfl rfl; have c1_0 := S.c 1 0 rfl rfl; have c1_1 := S.c 1 1 rfl rfl; have c2_0 := S.c 2 0 rfl rfl; have c2_1 := S.c 2 1 rfl rfl; have c3_0 := S.c 3 0 rfl rfl; have c3_1 := S.c 3 1 rfl rfl; have c4_0 := S.c 4 0 rfl rfl; have c4_1 := S.c 4 1 rfl rfl
    subst HZ
    have f2_0 := S.f 2 0 rfl
    have H := S.hset 2 0 (.bool (negB z)) rfl rfl (by intro q n e; cases e)
    replace S := S.set 2 0 (.bool (negB z)) rfl
    refine iv5 H n1 n2 nD nq nr ?_; clear n1 n2 nD nq nr; intro n1 n2 nD nq nr
    clear H; have f2_1 := S.f 2 1 rfl
    have H := S.hset 2 1 (.slice pq lq Kq) rfl rfl (by intro q n e; cases e)
    replace S := S.set 2 1 (.slice pq lq Kq) rfl
    refine iv5 H n1 n2 nD nq nr ?_; clear n1 n2 nD nq nr; intro n1 n2 nD nq nr
    clear H; go_wp2_with fail; have d2_0 := S.c 2 0 rfl rfl; have d2_1 := S.c 2 1 rfl rfl
    exact bodyPost_ret (v := .tuple #[.agg #[.bool (negB z), .slice pq lq Kq], .int .i64 0]) (by simp [results, Tryz.f139, go_sem, d2_0, d2_1]) rfl (⟨⟨_, rfl, pq, lq, Kq, rfl, nq⟩, S.below⟩)
  | true =>
    by_cases h0 : 0 < r
    · have HZ := Lib.hid (show q + 1 = z by rw [hzq, if_pos ⟨rfl, h0⟩])
      have hg1 : g = 1 := by rw [← hg]; exact Int.sign_eq_one_of_pos h0
      subst hg1
      clear hzq hg h0 hr0
      have S := (((St.start w).alloc 25 [.bool b1, .slice p1 l1 K1] (w.heap.size)).alloc 25 [.bool b2, .slice p2 l2 K2] (w.heap.size + 1)).alloc 25 [.bool false, .slice none 0 0] (w.heap.size + 1 + 1)
      try simp only [List.cons_append, List.nil_append] at S
      replace n1 := n1.hold S.hold; replace n2 := n2.hold S.hold
      have c0_0 := S.c 0 0 rfl rfl; have c0_1 := S.c 0 1 rfl rfl; have c1_0 := S.c 1 0 rfl rfl; have c1_1 := S.c 1 1 rfl rfl; have c2_0 := S.c 2 0 rfl rfl; have c2_1 := S.c 2 1 rfl rfl
      go_enter Tryz.func139, Tryz.ntmps139
      go_wp2_with fail; clear c0_0 c0_1 c1_0 c1_1 c2_0 c2_1
      refine (S.call (wleft_any ⟨_, _, _, by rw [HD.out.2.2.2.2.2.2.2], n2⟩ HD.out.2.1 s HD.out.2.2.1 HD.out.2.2.2.2.2.1 D HD.out.2.2.2.2.1)).mono ?_
      clear S
      rintro e w1 ⟨⟨_, rfl, pD, lD, KD, rfl, nD⟩, S, H⟩
      replace n1 := n1.hold H; replace n2 := n2.hold H
      clear H; have c0_0 := S.c 0 0 rfl rfl; have c0_1 := S.c 0 1 rfl rfl; have c1_0 := S.c 1 0 rfl rfl; have c1_1 := S.c 1 1 rfl rfl; have c2_0 := S.c 2 0 rfl rfl; have c2_1 := S.c 2 1 rfl rfl; have f1_0 := S.f 1 0 rfl
      have H := S.hset 1 0 (.bool (negB D)) rfl rfl (by intro q n e; cases e)
      replace S := S.set 1 0 (.bool (negB D)) rfl
      refine iv3 H n1 n2 nD ?_; clear n1 n2 nD; intro n1 n2 nD
      clear H; have f1_1 := S.f 1 1 rfl
      have H := S.hset 1 1 (.slice pD lD KD) rfl rfl (by intro q n e; cases e)
      replace S := S.set 1 1 (.slice pD lD KD) rfl
      refine iv3 H n1 n2 nD ?_; clear n1 n2 nD; intro n1 n2 nD
      clear H; have c0_0 := S.c 0 0 rfl rfl; have c0_1 := S.c 0 1 rfl rfl; have c1_0 := S.c 1 0 rfl rfl; have c1_1 := S.c 1 1 rfl rfl; go_wp2_with fail; clear c0_0 c0_1 c1_0 c1_1 c2_0 c2_1 f1_0 f1_1; clear c0_0 c0_1 c1_0 c1_1
      refine (S.call (wdiv_to ⟨_, _, _, by rw [← HD.out.2.2.2.1, HD.out.2.2.2.2.2.2.1], by rw [← HD.out.2.2.2.1]; exact n1⟩ ⟨_, _, _, rfl, nD⟩ HQ.out.2.2.2.2.2.1 HQ.out.2.2.2.2.2.2.1 q r HQ.out.2.2.2.2.2.2.2 HQ.out.1 HQ.out.2.1)).mono ?_
      clear S
      rintro e w2 ⟨⟨_, _, rfl, ⟨pq, lq, Kq, rfl, nq⟩, ⟨pr, lr, Kr, rfl, nr⟩⟩, S, H⟩
      refine iv3 H n1 n2 nD ?_; clear n1 n2 nD; intro n1 n2 nD
      clear H; have c0_0 := S.c 0 0 rfl rfl; have c0_1 := S.c 0 1 rfl rfl; have c1_0 := S.c 1 0 rfl rfl; have c1_1 := S.c 1 1 rfl rfl; have c2_0 := S.c 2 0 rfl rfl; have c2_1 := S.c 2 1 rfl rfl
      have H := S.hnew 25 [.bool (negB q), .slice pq lq Kq]
      replace S := S.al 25 [.bool (negB q), .slice pq lq Kq] (w2.heap.size)
      refine iv5 H n1 n2 nD nq nr ?_; clear n1 n2 nD nq nr; intro n1 n2 nD nq nr
      clear H
      have H := S.hnew 25 [.bool (negB r), .slice pr lr Kr]
      replace S := S.al 25 [.bool (negB r), .slice pr lr Kr] (w2.heap.size + 1)
      refine iv5 H n1 n2 nD nq nr ?_; clear n1 n2 nD nq nr; intro n1 n2 nD nq nr
      clear H; clear c0_0 c0_1 c1_0 c1_1 c2_0 c2_1; have c0_0 := S.c 0 0 rfl rfl; have c0_1 := S.c 0 1 rfl rfl; have c1_0 := S.c 1 0 rfl rfl; have c1_1 := S.c 1 1 rfl rfl; have c2_0 := S.c 2 0 rfl rfl; have c2_1 := S.c 2 1 rfl rfl; have c3_0 := S.c 3 0 rfl rfl; have c3_1 := S.c 3 1 rfl rfl; have c4_0 := S.c 4 0 rfl rfl; have c4_1 := S.c 4 1 rfl rfl; go_wp2_with fail; clear c0_0 c0_1 c1_0 c1_1 c2_0 c2_1 c3_0 c3_1 c4_0 c4_1
      refine (S.call (wsign_any ⟨_, _, _, rfl, nr⟩ HQ.out.2.2.2.1 HG.out)).mono ?_
      clear S
      rintro e w3 ⟨rfl, S, H⟩
      refine iv5 H n1 n2 nD nq nr ?_; clear n1 n2 nD nq nr; intro n1 n2 nD nq nr
      clear H; have c0_0 := S.c 0 0 rfl rfl; have c0_1 := S.c 0 1 rfl rfl; have c1_0 := S.c 1 0 rfl rfl; have c1_1 := S.c 1 1 rfl rfl; have c2_0 := S.c 2 0 rfl rfl; have c2_1 := S.c 2 1 rfl rfl; have c3_0 := S.c 3 0 rfl rfl; have c3_1 := S.c 3 1 rfl rfl; have c4_0 := S.c 4 0 rfl rfl; have c4_1 := S.c 4 1 rfl rfl
      go_upto_region 9 with fail
      clear c0_0 c0_1 c1_0 c1_1 c2_0 c2_1 c3_0 c3_1 c4_0 c4_1
      go_cut [10] (fun s10 wx => ∃ py ly Ky, s10 = .int .i64 0 ∧ St w wx [(w.heap.size, 25, [.bool b1, .slice p1 l1 K1]), (w.heap.size + 1, 25, [.bool (negB D), .slice pD lD KD]), (w.heap.size + 1 + 1, 25, [.bool false, .slice none 0 0]), (w2.heap.size, 25, [.bool (negB z), .slice py ly Ky]), (w2.heap.size + 1, 25, [.bool (negB r), .slice pr lr Kr])] ∧ IsNat wx (.slice py ly Ky) z.natAbs ∧ Hold w3 wx)
      case first =>
        have HH := Hold.drew w3
        refine iv5 HH n1 n2 nD nq nr ?_; clear n1 n2 nD nq nr; intro n1 n2 nD nq nr
        replace S := S.drew
        refine wp_region_held_drew (S := fun W => True) (by kernel_rfl) trivial (fun hS => ?_)
        generalize w3.drew = w4 at S n1 n2 nD nq nr HH hS ⊢
        refine wpAnyH_ready (rs := [0, 1]) (by kernel_rfl) (by simp) (AllReadyH.cons (opOf rfl) (fun KK hKK => ?_) (AllReadyH.cons (opOf rfl) (fun KK hKK => ?_) AllReadyH.nil))
        ·
          have c3_0 := S.c 3 0 rfl rfl; have c3_1 := S.c 3 1 rfl rfl; go_simp; clear c3_0 c3_1
          refine ho hKK hS fun hS => ?_
          clear hKK KK
          refine rd 1 fun KK hKK => ?_
          go_simp; clear hS
          refine (S.call (wof_any 1 _ (by decide) (by decide))).mono ?_
          clear S
          rintro e w5 ⟨⟨_, rfl, po, lo, Ko, rfl, no⟩, S, H⟩
          refine iv5 H n1 n2 nD nq nr ?_; clear n1 n2 nD nq nr; intro n1 n2 nD nq nr; replace HH := HH.trans H; clear H
          go_wp2_with fail
          refine ho hKK trivial fun hS => ?_
          clear hKK KK
          refine rd 2 fun KK hKK => ?_
          go_simp; clear hS
          refine (S.call (wadd_to ⟨_, _, _, rfl, nq⟩ ⟨_, _, _, rfl, no⟩ HQ.out.2.2.1 (lt_maxN (by decide)) z HZ.out HQ.out.2.2.2.2.1)).mono ?_
          clear S
          rintro e w6 ⟨⟨_, rfl, py, ly, Ky, rfl, ny⟩, S, H⟩
          refine iv6 H n1 n2 nD nq nr no ?_; clear n1 n2 nD nq nr no; intro n1 n2 nD nq nr no; replace HH := HH.trans H; clear H
          go_wp2_with fail
          refine ho hKK trivial fun hS => ?_
          clear hKK KK
          refine tk 3 hS ?_
          refine tk 4 hS ?_
          refine tk 5 hS ?_
          refine rd 6 fun KK hKK => ?_
          have c0 := S.c 3 0 rfl rfl; have f0 := S.f 3 0 rfl; have c1 := S.c 3 1 rfl rfl; have f1 := S.f 3 1 rfl; go_simp; clear hS c0 f0 c1 f1
          have H := S.hset 3 0 (.bool (negB z)) rfl rfl (by intro q n e; cases e)
          replace S := S.set 3 0 (.bool (negB z)) rfl
          refine iv7 H n1 n2 nD nq nr no ny ?_; clear n1 n2 nD nq nr no ny; intro n1 n2 nD nq nr no ny; replace HH := HH.trans H; clear H
          have H := S.hset 3 1 (.slice py ly Ky) rfl rfl (by intro q n e; cases e)
          replace S := S.set 3 1 (.slice py ly Ky) rfl
          refine iv7 H n1 n2 nD nq nr no ny ?_; clear n1 n2 nD nq nr no ny; intro n1 n2 nD nq nr no ny; replace HH := HH.trans H; clear H
          refine ho hKK trivial fun hS => ?_
          generalize ((w6.setCell ⟨w2.heap.size, 0, none⟩ (.bool (negB z))).setCell ⟨w2.heap.size, 1, none⟩ (.slice py ly Ky)) = w7 at S n1 n2 nD nq nr no ny HH hS ⊢
          clear hKK KK
          refine rd 7 fun KK hKK => ?_
          go_simp
          refine ho hKK hS fun hS => ?_
          clear hKK KK
          refine wpAnyH_done (by kernel_rfl) ?_ _
          go_wp2_with fail
          go_meet
          case rel => exact ⟨py, ly, Ky, rfl, S, ny, HH⟩
        ·
          go_simp; clear hS
          refine (S.call (wof_any 1 _ (by decide) (by decide))).mono ?_
          clear S
          rintro e w8 ⟨⟨_, rfl, po, lo, Ko, rfl, no⟩, S, H⟩
          refine iv5 H n1 n2 nD nq nr ?_; clear n1 n2 nD nq nr; intro n1 n2 nD nq nr; replace HH := HH.trans H; clear H
          go_wp2_with fail
          refine ho hKK trivial fun hS => ?_
          clear hKK KK
          refine rd 0 fun KK hKK => ?_
          have c3_0 := S.c 3 0 rfl rfl; have c3_1 := S.c 3 1 rfl rfl; go_simp; clear c3_0 c3_1
          refine ho hKK hS fun hS => ?_
          clear hKK KK
          refine rd 2 fun KK hKK => ?_
          go_simp; clear hS
          refine (S.call (wadd_to ⟨_, _, _, rfl, nq⟩ ⟨_, _, _, rfl, no⟩ HQ.out.2.2.1 (lt_maxN (by decide)) z HZ.out HQ.out.2.2.2.2.1)).mono ?_
          clear S
          rintro e w9 ⟨⟨_, rfl, py, ly, Ky, rfl, ny⟩, S, H⟩
          refine iv6 H n1 n2 nD nq nr no ?_; clear n1 n2 nD nq nr no; intro n1 n2 nD nq nr no; replace HH := HH.trans H; clear H
          go_wp2_with fail
          refine ho hKK trivial fun hS => ?_
          clear hKK KK
          refine tk 3 hS ?_
          refine tk 4 hS ?_
          refine tk 5 hS ?_
          refine rd 6 fun KK hKK => ?_
          have c0 := S.c 3 0 rfl rfl; have f0 := S.f 3 0 rfl; have c1 := S.c 3 1 rfl rfl; have f1 := S.f 3 1 rfl; go_simp; clear hS c0 f0 c1 f1
          have H := S.hset 3 0 (.bool (negB z)) rfl rfl (by intro q n e; cases e)
          replace S := S.set 3 0 (.bool (negB z)) rfl
          refine iv7 H n1 n2 nD nq nr no ny ?_; clear n1 n2 nD nq nr no ny; intro n1 n2 nD nq nr no ny; replace HH := HH.trans H; clear H
          have H := S.hset 3 1 (.slice py ly Ky) rfl rfl (by intro q n e; cases e)
          replace S := S.set 3 1 (.slice py ly Ky) rfl
          refine iv7 H n1 n2 nD nq nr no ny ?_; clear n1 n2 nD nq nr no ny; intro n1 n2 nD nq nr no ny; replace HH := HH.trans H; clear H
          refine ho hKK trivial fun hS => ?_
          generalize ((w9.setCell ⟨w2.heap.size, 0, none⟩ (.bool (negB z))).setCell ⟨w2.heap.size, 1, none⟩ (.slice py ly Ky)) = w10 at S n1 n2 nD nq nr no ny HH hS ⊢
          clear hKK KK
          refine rd 7 fun KK hKK => ?_
          go_simp
          refine ho hKK hS fun hS => ?_
          clear hKK KK
          refine wpAnyH_done (by kernel_rfl) ?_ _
          go_wp2_with fail
          go_meet
          case rel => exact ⟨py, ly, Ky, rfl, S, ny, HH⟩
      case rest =>
        obtain ⟨py, ly, Ky, rfl, S, ny, HH⟩ := hcut
        obtain ⟨w11, rfl⟩ : ∃ W : World, W = wc := ⟨_, rfl⟩
        refine iv5 HH n1 n2 nD nq nr ?_; clear n1 n2 nD nq nr; intro n1 n2 nD nq nr; clear HH; have c0_0 := S.c 0 0 rfl rfl; have c0_1 := S.c 0 1 rfl rfl; have c1_0 := S.c 1 0 rfl rfl; have c1_1 := S.c 1 1 rfl rfl; have c2_0 := S.c 2 0 rfl rfl; have c2_1 := S.c 2 1 rfl rfl; have c3_0 := S.c 3 0 rfl rfl; have c3_1 := S.c 3 1 rfl rfl; have c4_0 := S.c 4 0 rfl rfl; have c4_1 := S.c 4 1 rfl rfl; have f2_0 := S.f 2 0 rfl
        have H := S.hset 2 0 (.bool (negB z)) rfl rfl (by intro q n e; cases e)
        replace S := S.set 2 0 (.bool (negB z)) rfl
        refine iv6 H n1 n2 nD nq nr ny ?_; clear n1 n2 nD nq nr ny; intro n1 n2 nD nq nr ny
        clear H; have f2_1 := S.f 2 1 rfl
        have H := S.hset 2 1 (.slice py ly Ky) rfl rfl (by intro q n e; cases e)
        replace S := S.set 2 1 (.slice py ly Ky) rfl
        refine iv6 H n1 n2 nD nq nr ny ?_; clear n1 n2 nD nq nr ny; intro n1 n2 nD nq nr ny
        clear H; go_wp2_with fail; have d2_0 := S.c 2 0 rfl rfl; have d2_1 := S.c 2 1 rfl rfl
        exact bodyPost_ret (v := .tuple #[.agg #[.bool (negB z), .slice py ly Ky], .int .i64 0]) (by simp [results, Tryz.f139, go_sem, d2_0, d2_1]) rfl (⟨⟨_, rfl, py, ly, Ky, rfl, ny⟩, S.below⟩)
    · have HZ : z = q := by rw [hzq, if_neg (by rintro ⟨_, h⟩; exact h0 h)]
      have hg1 : g = 0 := by rw [← hg, show r = 0 by omega]; rfl
      subst hg1
      clear hzq hg h0 hr0
      have S := (((St.start w).alloc 25 [.bool b1, .slice p1 l1 K1] (w.heap.size)).alloc 25 [.bool b2, .slice p2 l2 K2] (w.heap.size + 1)).alloc 25 [.bool false, .slice none 0 0] (w.heap.size + 1 + 1)
      try simp only [List.cons_append, List.nil_append] at S
      replace n1 := n1.hold S.hold; replace n2 := n2.hold S.hold
      have c0_0 := S.c 0 0 rfl rfl; have c0_1 := S.c 0 1 rfl rfl; have c1_0 := S.c 1 0 rfl rfl; have c1_1 := S.c 1 1 rfl rfl; have c2_0 := S.c 2 0 rfl rfl; have c2_1 := S.c 2 1 rfl rfl
      go_enter Tryz.func139, Tryz.ntmps139
      go_wp2_with fail; clear c0_0 c0_1 c1_0 c1_1 c2_0 c2_1
      refine (S.call (wleft_any ⟨_, _, _, by rw [HD.out.2.2.2.2.2.2.2], n2⟩ HD.out.2.1 s HD.out.2.2.1 HD.out.2.2.2.2.2.1 D HD.out.2.2.2.2.1)).mono ?_
      clear S
      rintro e w1 ⟨⟨_, rfl, pD, lD, KD, rfl, nD⟩, S, H⟩
      replace n1 := n1.hold H; replace n2 := n2.hold H
      clear H; have c0_0 := S.c 0 0 rfl rfl; have c0_1 := S.c 0 1 rfl rfl; have c1_0 := S.c 1 0 rfl rfl; have c1_1 := S.c 1 1 rfl rfl; have c2_0 := S.c 2 0 rfl rfl; have c2_1 := S.c 2 1 rfl rfl; have f1_0 := S.f 1 0 rfl
      have H := S.hset 1 0 (.bool (negB D)) rfl rfl (by intro q n e; cases e)
      replace S := S.set 1 0 (.bool (negB D)) rfl
      refine iv3 H n1 n2 nD ?_; clear n1 n2 nD; intro n1 n2 nD
      clear H; have f1_1 := S.f 1 1 rfl
      have H := S.hset 1 1 (.slice pD lD KD) rfl rfl (by intro q n e; cases e)
      replace S := S.set 1 1 (.slice pD lD KD) rfl
      refine iv3 H n1 n2 nD ?_; clear n1 n2 nD; intro n1 n2 nD
      clear H; have c0_0 := S.c 0 0 rfl rfl; have c0_1 := S.c 0 1 rfl rfl; have c1_0 := S.c 1 0 rfl rfl; have c1_1 := S.c 1 1 rfl rfl; go_wp2_with fail; clear c0_0 c0_1 c1_0 c1_1 c2_0 c2_1 f1_0 f1_1; clear c0_0 c0_1 c1_0 c1_1
      refine (S.call (wdiv_to ⟨_, _, _, by rw [← HD.out.2.2.2.1, HD.out.2.2.2.2.2.2.1], by rw [← HD.out.2.2.2.1]; exact n1⟩ ⟨_, _, _, rfl, nD⟩ HQ.out.2.2.2.2.2.1 HQ.out.2.2.2.2.2.2.1 q r HQ.out.2.2.2.2.2.2.2 HQ.out.1 HQ.out.2.1)).mono ?_
      clear S
      rintro e w2 ⟨⟨_, _, rfl, ⟨pq, lq, Kq, rfl, nq⟩, ⟨pr, lr, Kr, rfl, nr⟩⟩, S, H⟩
      refine iv3 H n1 n2 nD ?_; clear n1 n2 nD; intro n1 n2 nD
      clear H; have c0_0 := S.c 0 0 rfl rfl; have c0_1 := S.c 0 1 rfl rfl; have c1_0 := S.c 1 0 rfl rfl; have c1_1 := S.c 1 1 rfl rfl; have c2_0 := S.c 2 0 rfl rfl; have c2_1 := S.c 2 1 rfl rfl
      have H := S.hnew 25 [.bool (negB q), .slice pq lq Kq]
      replace S := S.al 25 [.bool (negB q), .slice pq lq Kq] (w2.heap.size)
      refine iv5 H n1 n2 nD nq nr ?_; clear n1 n2 nD nq nr; intro n1 n2 nD nq nr
      clear H
      have H := S.hnew 25 [.bool (negB r), .slice pr lr Kr]
      replace S := S.al 25 [.bool (negB r), .slice pr lr Kr] (w2.heap.size + 1)
      refine iv5 H n1 n2 nD nq nr ?_; clear n1 n2 nD nq nr; intro n1 n2 nD nq nr
      clear H; clear c0_0 c0_1 c1_0 c1_1 c2_0 c2_1; have c0_0 := S.c 0 0 rfl rfl; have c0_1 := S.c 0 1 rfl rfl; have c1_0 := S.c 1 0 rfl rfl; have c1_1 := S.c 1 1 rfl rfl; have c2_0 := S.c 2 0 rfl rfl; have c2_1 := S.c 2 1 rfl rfl; have c3_0 := S.c 3 0 rfl rfl; have c3_1 := S.c 3 1 rfl rfl; have c4_0 := S.c 4 0 rfl rfl; have c4_1 := S.c 4 1 rfl rfl; go_wp2_with fail; clear c0_0 c0_1 c1_0 c1_1 c2_0 c2_1 c3_0 c3_1 c4_0 c4_1
      refine (S.call (wsign_any ⟨_, _, _, rfl, nr⟩ HQ.out.2.2.2.1 HG.out)).mono ?_
      clear S
      rintro e w3 ⟨rfl, S, H⟩
      refine iv5 H n1 n2 nD nq nr ?_; clear n1 n2 nD nq nr; intro n1 n2 nD nq nr
      clear H; have c0_0 := S.c 0 0 rfl rfl; have c0_1 := S.c 0 1 rfl rfl; have c1_0 := S.c 1 0 rfl rfl; have c1_1 := S.c 1 1 rfl rfl; have c2_0 := S.c 2 0 rfl rfl; have c2_1 := S.c 2 1 rfl rfl; have c3_0 := S.c 3 0 rfl rfl; have c3_1 := S.c 3 1 rfl rfl; have c4_0 := S.c 4 0 rfl rfl; have c4_1 := S.c 4 1 rfl rfl
      subst HZ
      have f2_0 := S.f 2 0 rfl
      have H := S.hset 2 0 (.bool (negB z)) rfl rfl (by intro q n e; cases e)
      replace S := S.set 2 0 (.bool (negB z)) rfl
      refine iv5 H n1 n2 nD nq nr ?_; clear n1 n2 nD nq nr; intro n1 n2 nD nq nr
      clear H; have f2_1 := S.f 2 1 rfl
      have H := S.hset 2 1 (.slice pq lq Kq) rfl rfl (by intro q n e; cases e)
      replace S := S.set 2 1 (.slice pq lq Kq) rfl
      refine iv5 H n1 n2 nD nq nr ?_; clear n1 n2 nD nq nr; intro n1 n2 nD nq nr
      clear H; go_wp2_with fail; have d2_0 := S.c 2 0 rfl rfl; have d2_1 := S.c 2 1 rfl rfl
      exact bodyPost_ret (v := .tuple #[.agg #[.bool (negB z), .slice pq lq Kq], .int .i64 0]) (by simp [results, Tryz.f139, go_sem, d2_0, d2_1]) rfl (⟨⟨_, rfl, pq, lq, Kq, rfl, nq⟩, S.below⟩)
theorem divI_le (n : Int) {d : Nat} (hd0 : 0 < d) (up : Bool) : (divI n (d : Int) up).natAbs * d ≤ n.natAbs + d := by
  have h1 := Int.emod_add_mul_ediv n (d : Int)
  have h2 := Int.emod_nonneg n (show (d : Int) ≠ 0 by omega)
  have h3 := Int.emod_lt_of_pos n (show (0 : Int) < (d : Int) by omega)
  unfold divI
  generalize n / (d : Int) = q at *
  generalize n % (d : Int) = r at *
  have h4 : ∀ z : Int, z.natAbs * d = (z * (d : Int)).natAbs := fun z => by rw [Int.natAbs_mul, Int.natAbs_natCast]
  rw [h4]
  split
  · rw [Int.add_mul, Int.mul_comm q]; omega
  · rw [Int.mul_comm q]; omega
theorem divI_bits {n : Int} {d k : Nat} (hd0 : 0 < d) (up : Bool) (h : n.natAbs < d * 2 ^ k) : (divI n (d : Int) up).natAbs ≤ 2 ^ k := by
  have h1 := divI_le n hd0 up
  have h2 : (divI n (d : Int) up).natAbs * d < (2 ^ k + 1) * d := by rw [Nat.add_mul, Nat.one_mul, Nat.mul_comm (2 ^ k)]; omega
  have := Nat.lt_of_mul_lt_mul_right h2
  omega
def rndZ (z f : Int) (n : Nat) (up : Bool) : Rat := if nbits z.natAbs ≤ n then dq z f else dq (divI z ((2 ^ (nbits z.natAbs - n) : Nat) : Int) up) (f + ((nbits z.natAbs - n : Nat) : Int))
theorem rnd_canon {m e z f : Int} (hc : DyC m e) (h : dq m e = dq z f) (n : Nat) (up : Bool) : rnd m e n up = rndZ z f n up := by
  rcases hc with ⟨h1, h2⟩ | hm
  · subst h1
    rw [dq_zero] at h
    have hz : z = 0 := ((dq_eq 0 z f).1 (by rw [dq_zero]; exact h)).symm
    subst hz
    have h0 : nbits (Int.natAbs 0) = 0 := rfl
    unfold rnd rndZ
    rw [h0, if_pos (Nat.zero_le n), if_pos (Nat.zero_le n), dq_zero, dq_zero]
  · obtain ⟨t, hz, he⟩ := dq_odd hm h
    have hm0 : m.natAbs ≠ 0 := by omega
    have hnb : nbits z.natAbs = nbits m.natAbs + t := by
      rw [hz, Int.natAbs_mul, Int.natAbs_natCast, nbits_shl t hm0]
    unfold rnd rndZ
    rw [hnb]
    obtain ⟨b, hb⟩ : ∃ b, nbits m.natAbs = b := ⟨_, rfl⟩
    rw [hb]
    by_cases h1 : b + t ≤ n
    · rw [if_pos (by omega), if_pos h1, h]
    · rw [if_neg h1]
      by_cases h2 : b ≤ n
      · rw [if_pos h2]
        obtain ⟨v, hv⟩ : ∃ v, b + t - n = v := ⟨_, rfl⟩
        rw [hv]
        obtain ⟨u, hu⟩ : ∃ u, t = u + v := ⟨t - v, by omega⟩
        have hp : (2 ^ t : Nat) = 2 ^ u * 2 ^ v := by rw [hu, Nat.pow_add]
        have h2v := Nat.two_pow_pos v
        have hzv : z = (m * ((2 ^ u : Nat) : Int)) * ((2 ^ v : Nat) : Int) := by rw [hz, hp, Int.natCast_mul, Int.mul_assoc]
        have e1 : divI z ((2 ^ v : Nat) : Int) up = m * ((2 ^ u : Nat) : Int) := by
          unfold divI
          rw [hzv, Int.mul_emod_left, if_neg (by omega)]
          exact Int.mul_ediv_cancel _ (by omega)
        rw [e1, dq_shift, he, hu]
        congr 1; omega
      · rw [if_neg h2]
        obtain ⟨v, hv⟩ : ∃ v, b - n = v + 1 := ⟨b - n - 1, by omega⟩
        rw [hv, show b + t - n = (v + 1) + t by omega]
        have h2t := Nat.two_pow_pos t
        have h2v := Nat.two_pow_pos (v + 1)
        have hpI : (2 : Int) ^ (v + 1) = ((2 ^ (v + 1) : Nat) : Int) := by simp
        have e2 : m % ((2 ^ (v + 1) : Nat) : Int) ≠ 0 := by
          intro e0
          have := Int.dvd_of_emod_eq_zero e0
          rw [Nat.pow_succ, Int.natCast_mul] at this
          have h3 : ((2 : Nat) : Int) ∣ m := Int.dvd_trans (Int.dvd_mul_left _ _) this
          omega
        have e3 := Int.emod_nonneg m (show ((2 ^ (v + 1) : Nat) : Int) ≠ 0 by omega)
        have e4 : z % ((2 ^ (v + 1 + t) : Nat) : Int) = (m % ((2 ^ (v + 1) : Nat) : Int)) * ((2 ^ t : Nat) : Int) := by
          rw [hz, Nat.pow_add, Int.natCast_mul, Int.mul_comm m, Int.mul_comm ((2 ^ (v + 1) : Nat) : Int), Int.mul_emod_mul_of_pos _ _ (by omega), Int.mul_comm]
        have e5 : z / ((2 ^ (v + 1 + t) : Nat) : Int) = m / ((2 ^ (v + 1) : Nat) : Int) := by
          rw [hz, Nat.pow_add, Int.natCast_mul, Int.mul_ediv_mul_of_pos_left _ _ (by omega)]
        have e6 : divI z ((2 ^ (v + 1 + t) : Nat) : Int) up = rndI m (v + 1) up := by
          unfold divI rndI
          rw [e4, e5, hpI]
          have h7 : 0 < m % ((2 ^ (v + 1) : Nat) : Int) * ((2 ^ t : Nat) : Int) := Int.mul_pos (by omega) (by omega)
          cases up
          · rw [if_neg (by rintro ⟨h, _⟩; cases h), if_neg (by decide), Int.add_zero]
          · rw [if_pos ⟨rfl, h7⟩, if_pos rfl]
        rw [e6, he]
        congr 1; omega
def nearV (num : Int) (d t n : Nat) (up : Bool) : Rat :=
  rndZ (divI (num * ((2 ^ ((n : Int) + nbits d - nbits num.natAbs).toNat : Nat) : Int)) ((d : Int) * ((2 ^ (-((n : Int) + nbits d - nbits num.natAbs)).toNat : Nat) : Int)) up) (-((n : Int) + nbits d - nbits num.natAbs) - t) n up
theorem tail_uniq {n s t : Nat} (h0 : n ≠ 0) (h : TailIs n s) (g : TailIs n t) : s = t := by
  rcases h with ⟨h, _⟩ | ⟨a, h⟩
  · exact absurd h h0
  rcases g with ⟨g, _⟩ | ⟨b, g⟩
  · exact absurd g h0
  have hi : TailIs n s := .inr ⟨a, h⟩
  have gi : TailIs n t := .inr ⟨b, g⟩
  have h1 := (tail_cut (n := s) h0 gi).1 (by rw [h]; exact Nat.mul_mod_right _ _)
  have h2 := (tail_cut (n := t) h0 hi).1 (by rw [g]; exact Nat.mul_mod_right _ _)
  omega
theorem tail_ex : ∀ (n : Nat), n ≠ 0 → ∃ t, TailIs n t := by
  intro n
  induction n using Nat.strongRecOn with
  | _ n ih =>
    intro h0
    rcases Nat.mod_two_eq_zero_or_one n with h | h
    · obtain ⟨t, ht⟩ := ih (n / 2) (by omega) (by omega)
      rcases ht with ⟨h1, _⟩ | ⟨m, hm⟩
      · omega
      · exact ⟨t + 1, .inr ⟨m, by rw [Nat.pow_succ, Nat.mul_right_comm, ← hm]; omega⟩⟩
    · exact ⟨0, .inr ⟨n / 2, by rw [Nat.pow_zero]; omega⟩⟩
theorem canon_ex (z f : Int) : ∃ m e : Int, DyC m e ∧ dq m e = dq z f := by
  by_cases h0 : z = 0
  · subst h0
    exact ⟨0, 0, .inl ⟨rfl, rfl⟩, by rw [dq_zero, dq_zero]⟩
  · obtain ⟨t, ht⟩ := tail_ex z.natAbs (by omega)
    obtain ⟨o, h1, h2, _, _⟩ := tail_odd h0 ht
    exact ⟨o, f + t, .inr h1, by conv => rhs; rw [h2]
                                 rw [dq_shift]⟩
def DyX (x : Rat) : Prop := ∃ m e, DyC m e ∧ dq m e = x
theorem dyx_dq (m e : Int) : DyX (dq m e) := by
  obtain ⟨p, f, h1, h2⟩ := canon_ex m e
  exact ⟨p, f, h1, h2⟩
theorem DyX.mul {x y : Rat} (h : DyX x) (g : DyX y) : DyX (x * y) := by
  obtain ⟨m, e, _, rfl⟩ := h
  obtain ⟨n, f, _, rfl⟩ := g
  rw [dq_mul]; exact dyx_dq _ _
theorem DyX.add {x y : Rat} (h : DyX x) (g : DyX y) : DyX (x + y) := by
  obtain ⟨m, e, _, rfl⟩ := h
  obtain ⟨n, f, _, rfl⟩ := g
  by_cases hef : e ≤ f
  · obtain ⟨k, hk⟩ : ∃ k : Nat, f = e + k := ⟨(f - e).toNat, by omega⟩
    rw [hk, ← dq_shift, dq_add]; exact dyx_dq _ _
  · obtain ⟨k, hk⟩ : ∃ k : Nat, e = f + k := ⟨(e - f).toNat, by omega⟩
    rw [hk, ← dq_shift, dq_add]; exact dyx_dq _ _
def loM (x y u v : Rat) : Rat := min2 (min2 (min2 (x * u) (x * v)) (y * u)) (y * v)
def hiM (x y u v : Rat) : Rat := max2 (max2 (max2 (x * u) (x * v)) (y * u)) (y * v)
theorem rb_dyad {m e : Int} {x : Rat} {L H k : Nat} (h : DyF m e x L H) (h1 : H + L ≤ 32 * k) (h2 : L + 1 ≤ 32 * k) : RB x k := by
  obtain ⟨hc, hz, hx⟩ := h
  subst hx
  have hsz := pb_nb hz.size h1
  by_cases he : 0 ≤ e
  · obtain ⟨s, hs⟩ : ∃ s : Nat, e = s := ⟨e.toNat, by omega⟩
    subst hs
    rw [dq_whole]
    have h3 : (m * ((2 ^ s : Nat) : Int)).natAbs < NB k := by
      refine pb_nb (n := H + L) ?_ h1
      rw [Int.natAbs_mul, Int.natAbs_natCast]
      refine Nat.lt_of_le_of_lt ?_ hz.2
      exact Nat.mul_le_mul_left _ (Nat.pow_le_pow_right (by decide) (by omega))
    exact ⟨h3, by show 1 < NB k; exact pb_nb (n := 1) (by rw [PB_is]; decide) (by omega)⟩
  · obtain ⟨s, hs⟩ : ∃ s : Nat, e = -(s : Int) := ⟨(-e).toNat, by omega⟩
    subst hs
    have hm : m % 2 = 1 := by rcases hc with ⟨_, h⟩ | h; omega; exact h
    obtain ⟨a, b⟩ := dq_stands hm s
    refine ⟨by rw [a]; exact hsz, ?_⟩
    rw [b]
    have h3 := hz.1
    exact pb_nb (n := s + 1) (by rw [PB_is]; exact Nat.pow_lt_pow_right (by decide) (by omega)) (by omega)
set_option maxRecDepth 100000 in
set_option maxHeartbeats 8000000 in
theorem dratio_any {va : Value} {x : Rat} {L H : Nat} {w : World} (ha : IsD w va x L H) (hLH : H + L + 1 ≤ 16384) :
    Calls Tryz.prog 61 #[va] w fun ev w' => (∃ u, ev = .returned (.tuple #[u, .int .i64 0]) ∧ IsRat w' u x) ∧ Below w.heap.size w w' := by
  obtain ⟨b, p, l, K, m, e, rfl, hb, nm, hd⟩ := ha
  have hmax := hd.out.max (by omega)
  by_cases he : 0 ≤ e
  · obtain ⟨s, hs⟩ : ∃ s : Nat, e = s := ⟨e.toNat, by omega⟩
    subst hs
    have hz := hd.out.2.1
    have h3 : m.natAbs * 2 ^ s < PB (H + L) := Nat.lt_of_le_of_lt (Nat.mul_le_mul_left _ (Nat.pow_le_pow_right (by decide) (by omega))) hz.2
    have hp : (2 : Int) ^ s = ((2 ^ s : Nat) : Int) := by simp
    obtain ⟨z, hz2⟩ : ∃ z, m * 2 ^ s = z := ⟨_, rfl⟩
    have hzm : z.natAbs < maxN := by rw [← hz2, hp, Int.natAbs_mul, Int.natAbs_natCast]; exact pb_max h3 (by omega)
    have hx : x = (z : Rat) := by rw [← hd.out.2.2, dq_whole, ← hz2, hp]
    have hex := hd.out.exp
    have HD := Lib.hid (And.intro hmax (And.intro hz2 (And.intro hzm (And.intro hx (And.intro (show s ≤ 9223372036854775807 by omega) (pb_max h3 (by omega)))))))
    clear hmax hz h3 hp hz2 hzm hx hLH hex
    have S := ((St.start w).alloc 27 [.bool b, .slice p l K, .int .i64 s] (w.heap.size)).alloc 34 [.bool false, .slice none 0 0, .slice none 0 0] (w.heap.size + 1)
    try simp only [List.cons_append, List.nil_append] at S
    replace nm := nm.hold S.hold
    obtain ⟨c0_0, c0_1, c0_2⟩ := S.c3 0 rfl; obtain ⟨c1_0, c1_1, c1_2⟩ := S.c3 1 rfl
    go_enter Tryz.func61, Tryz.ntmps61
    go_wp2_with fail; clear c0_0 c0_1 c0_2 c1_0 c1_1 c1_2
    refine (S.call (wleft_any ⟨_, _, _, by rw [hb.out], nm⟩ HD.out.1 s HD.out.2.2.2.2.1 HD.out.2.2.2.2.2 z HD.out.2.1)).mono ?_
    clear S
    rintro e w1 ⟨⟨_, rfl, pz, lz, Kz, rfl, nz⟩, S, H⟩
    replace nm := nm.hold H; clear H; obtain ⟨c0_0, c0_1, c0_2⟩ := S.c3 0 rfl; obtain ⟨c1_0, c1_1, c1_2⟩ := S.c3 1 rfl
    have H := S.hnew 25 [.bool (negB z), .slice pz lz Kz]
    replace S := S.al 25 [.bool (negB z), .slice pz lz Kz] (w1.heap.size)
    replace nm := nm.hold H; replace nz := nz.hold H
    clear H; clear c0_0 c0_1 c0_2 c1_0 c1_1 c1_2; obtain ⟨c0_0, c0_1, c0_2⟩ := S.c3 0 rfl; obtain ⟨c1_0, c1_1, c1_2⟩ := S.c3 1 rfl; have c2_0 := S.c 2 0 rfl rfl; have c2_1 := S.c 2 1 rfl rfl; go_wp2_with fail; clear c0_0 c0_1 c0_2 c1_0 c1_1 c1_2 c2_0 c2_1
    refine (S.call (rwhole_any ⟨_, _, _, rfl, nz⟩ HD.out.2.2.1 x HD.out.2.2.2.1)).mono ?_
    clear S
    rintro e w2 ⟨⟨_, rfl, b3, p3, l3, K3, q3, j3, J3, rfl, h3, n3, d3⟩, S, H⟩
    replace nm := nm.hold H; replace nz := nz.hold H
    clear H; obtain ⟨c0_0, c0_1, c0_2⟩ := S.c3 0 rfl; obtain ⟨c1_0, c1_1, c1_2⟩ := S.c3 1 rfl; have c2_0 := S.c 2 0 rfl rfl; have c2_1 := S.c 2 1 rfl rfl
    obtain ⟨f1_0, f1_1, f1_2⟩ := S.f3 1 rfl
    have HP := S.putq 1 (.bool b3) (.slice p3 l3 K3) (.slice q3 j3 J3) rfl rfl; have H := HP.2; replace S := HP.1; clear HP
    refine iv4 H nm nz n3 d3 ?_; clear nm nz n3 d3; intro nm nz n3 d3
    clear H; go_wp2_with fail; obtain ⟨d1_0, d1_1, d1_2⟩ := S.c3 1 rfl
    exact bodyPost_ret (v := .tuple #[.agg #[.bool b3, .slice p3 l3 K3, .slice q3 j3 J3], .int .i64 0]) (by simp [results, Tryz.f61, go_sem, d1_0, d1_1, d1_2]) rfl (⟨⟨_, rfl, b3, p3, l3, K3, q3, j3, J3, rfl, h3, n3, d3⟩, S.below⟩)
  · obtain ⟨s, hs⟩ : ∃ s : Nat, -e = s := ⟨(-e).toNat, by omega⟩
    have hm : m % 2 = 1 := by rcases hd.out.1 with ⟨_, h⟩ | h; omega; exact h
    have hst := dq_stands hm s
    rw [show -(s : Int) = e by omega, hd.out.2.2] at hst
    have hex := hd.out.exp
    have hwr : IntKind.i64.wrap (-e) = (s : Int) := by rw [wrap_int (by omega) (by omega), hs]
    have h1s : 1 * 2 ^ s < maxN := by
      rw [Nat.one_mul]
      exact pb_max (n := s + 1) (by rw [PB_is]; exact Nat.pow_lt_pow_right (by decide) (by omega)) (by omega)
    have HD := Lib.hid (And.intro hmax (And.intro hst (And.intro (show s ≤ 9223372036854775807 by omega) h1s)))
    clear hmax hs hm hst hLH hex h1s
    have S := ((St.start w).alloc 27 [.bool b, .slice p l K, .int .i64 e] (w.heap.size)).alloc 34 [.bool false, .slice none 0 0, .slice none 0 0] (w.heap.size + 1)
    try simp only [List.cons_append, List.nil_append] at S
    replace nm := nm.hold S.hold
    obtain ⟨c0_0, c0_1, c0_2⟩ := S.c3 0 rfl; obtain ⟨c1_0, c1_1, c1_2⟩ := S.c3 1 rfl
    go_enter Tryz.func61, Tryz.ntmps61
    go_upto_region 4 with fail
    clear c0_0 c0_1 c0_2 c1_0 c1_1 c1_2
    replace nm := nm.hold (Hold.drew _)
    replace S := S.drew
    refine wp_region_held_drew (S := fun W => W.cell? ⟨w.heap.size, 1, none⟩ = some (.slice p l K) ∧ W.cell? ⟨w.heap.size, 2, none⟩ = some (.int .i64 e)) (by kernel_rfl) ⟨(S.c 0 1 rfl rfl), (S.c 0 2 rfl rfl)⟩ (fun hS => ?_)
    refine tk 1 hS ?_
    refine tk 2 hS ?_
    refine tk 3 hS ?_
    refine rd 0 fun KK hKK => ?_
    go_simp
    refine (S.call (of_any 1 _ (by decide))).mono ?_; clear S; rintro e w1 ⟨⟨v1, rfl, n1⟩, S, H⟩; replace nm := nm.hold H; clear H
    go_wp2_with fail
    refine ho hKK ⟨(S.c 0 1 rfl rfl), (S.c 0 2 rfl rfl)⟩ fun hS => ?_
    clear hKK KK
    refine rd 4 fun KK hKK => ?_
    go_simp
    refine (S.call (left_fit n1 (lt_maxN (by decide)) s HD.out.2.2.1 HD.out.2.2.2)).mono ?_; clear S; rintro e w2 ⟨⟨v, rfl, nv⟩, S, H⟩; replace nm := nm.hold H; replace n1 := n1.hold H; clear H
    go_wp2_with fail
    refine ho hKK ⟨(S.c 0 1 rfl rfl), (S.c 0 2 rfl rfl)⟩ fun hS => ?_
    clear hKK KK
    refine tk 5 hS ?_
    refine tk 6 hS ?_
    refine tk 7 hS ?_
    refine rd 8 fun KK hKK => ?_
    go_simp
    refine ho hKK ⟨(S.c 0 1 rfl rfl), (S.c 0 2 rfl rfl)⟩ fun hS => ?_
    clear hKK KK
    refine rd 9 fun KK hKK => ?_
    go_simp
    refine ho hKK ⟨(S.c 0 1 rfl rfl), (S.c 0 2 rfl rfl)⟩ fun hS => ?_
    clear hKK KK
    refine wpAnyH_done (by kernel_rfl) ?_ _
    obtain ⟨pv, lv, Kv, rfl⟩ := nv.form
    obtain ⟨c0_0, c0_1, c0_2⟩ := S.c3 0 rfl; obtain ⟨c1_0, c1_1, c1_2⟩ := S.c3 1 rfl
    go_upto_region 7 with fail
    clear c0_0 c0_1 c0_2 c1_0 c1_1 c1_2
    go_cut [8] (fun s8 wx => ∃ g8 pc lc Kc, s8 = .pointer (some ⟨g8, 0, none⟩) ∧ St w wx [(w.heap.size, 27, [.bool b, .slice p l K, .int .i64 e]), (w.heap.size + 1, 34, [.bool false, .slice none 0 0, .slice none 0 0]), (g8, 25, [.bool b, .slice pc lc Kc])] ∧ IsNat wx (.slice pc lc Kc) m.natAbs ∧ Hold w2 wx)
    case first =>
      have HH := Hold.drew w2
      refine iv3 HH nm n1 nv ?_; clear nm n1 nv; intro nm n1 nv
      replace S := S.drew
      refine wp_region_held_drew (S := fun W => W.cell? ⟨w.heap.size, 0, none⟩ = some (.bool b) ∧ W.cell? ⟨w.heap.size, 1, none⟩ = some (.slice p l K)) (by kernel_rfl) ⟨(S.c 0 0 rfl rfl), (S.c 0 1 rfl rfl)⟩ (fun hS => ?_)
      generalize w2.drew = w3 at S nm n1 nv HH hS ⊢
      refine tk 0 hS ?_
      refine tk 1 hS ?_
      refine tk 2 hS ?_
      refine tk 3 hS ?_
      refine tk 4 hS ?_
      refine tk 5 hS ?_
      refine wpAnyH_ready (rs := [6, 8]) (by kernel_rfl) (by simp) (AllReadyH.cons (opOf rfl) (fun KK hKK => ?_) (AllReadyH.cons (opOf rfl) (fun KK hKK => ?_) AllReadyH.nil))
      ·
        go_simp; clear hS
        refine (S.call (clone_any nm HD.out.1)).mono ?_
        clear S
        rintro e w4 ⟨⟨_, rfl, nc⟩, S, H⟩
        refine iv3 H nm n1 nv ?_; clear nm n1 nv; intro nm n1 nv; replace HH := HH.trans H; clear H
        obtain ⟨pc, lc, Kc, rfl⟩ := nc.form
        go_wp2_with fail
        refine ho hKK ⟨(S.c 0 0 rfl rfl), (S.c 0 1 rfl rfl)⟩ fun hS => ?_
        clear hKK KK
        refine tk 7 hS ?_
        refine rd 8 fun KK hKK => ?_
        go_simp; clear hS
        have H := S.hnew 25 [.bool false, .slice none 0 0]
        replace S := S.al 25 [.bool false, .slice none 0 0] (w4.heap.size)
        refine iv4 H nm n1 nv nc ?_; clear nm n1 nv nc; intro nm n1 nv nc; replace HH := HH.trans H; clear H
        refine ho hKK ⟨(S.c 0 0 rfl rfl), (S.c 0 1 rfl rfl)⟩ fun hS => ?_
        generalize (w4.alloc (.cells #[.bool false, .slice none 0 0] 25)) = w5 at S nm n1 nv nc HH hS ⊢
        clear hKK KK
        refine rd 9 fun KK hKK => ?_
        have c0 := S.c 2 0 rfl rfl; have f0 := S.f 2 0 rfl; have c1 := S.c 2 1 rfl rfl; have f1 := S.f 2 1 rfl; go_simp; clear hS c0 f0 c1 f1
        have H := S.hset 2 0 (.bool b) rfl rfl (by intro q n e; cases e)
        replace S := S.set 2 0 (.bool b) rfl
        refine iv4 H nm n1 nv nc ?_; clear nm n1 nv nc; intro nm n1 nv nc; replace HH := HH.trans H; clear H
        have H := S.hset 2 1 (.slice pc lc Kc) rfl rfl (by intro q n e; cases e)
        replace S := S.set 2 1 (.slice pc lc Kc) rfl
        refine iv4 H nm n1 nv nc ?_; clear nm n1 nv nc; intro nm n1 nv nc; replace HH := HH.trans H; clear H
        refine ho hKK ⟨(S.c 0 0 rfl rfl), (S.c 0 1 rfl rfl)⟩ fun hS => ?_
        generalize ((w5.setCell ⟨w4.heap.size, 0, none⟩ (.bool b)).setCell ⟨w4.heap.size, 1, none⟩ (.slice pc lc Kc)) = w6 at S nm n1 nv nc HH hS ⊢
        clear hKK KK
        refine wpAnyH_done (by kernel_rfl) ?_ _
        go_wp2_with fail
        go_meet
        case rel => exact ⟨w4.heap.size, pc, lc, Kc, rfl, S, nc, HH⟩
      ·
        go_simp; clear hS
        have H := S.hnew 25 [.bool false, .slice none 0 0]
        replace S := S.al 25 [.bool false, .slice none 0 0] (w3.heap.size)
        refine iv3 H nm n1 nv ?_; clear nm n1 nv; intro nm n1 nv; replace HH := HH.trans H; clear H
        refine ho hKK ⟨(S.c 0 0 rfl rfl), (S.c 0 1 rfl rfl)⟩ fun hS => ?_
        generalize (w3.alloc (.cells #[.bool false, .slice none 0 0] 25)) = w7 at S nm n1 nv HH hS ⊢
        clear hKK KK
        refine rd 6 fun KK hKK => ?_
        go_simp; clear hS
        refine (S.call (clone_any nm HD.out.1)).mono ?_
        clear S
        rintro e w8 ⟨⟨_, rfl, nc⟩, S, H⟩
        refine iv3 H nm n1 nv ?_; clear nm n1 nv; intro nm n1 nv; replace HH := HH.trans H; clear H
        obtain ⟨pc, lc, Kc, rfl⟩ := nc.form
        go_wp2_with fail
        refine ho hKK ⟨(S.c 0 0 rfl rfl), (S.c 0 1 rfl rfl)⟩ fun hS => ?_
        clear hKK KK
        refine tk 7 hS ?_
        refine rd 9 fun KK hKK => ?_
        have c0 := S.c 2 0 rfl rfl; have f0 := S.f 2 0 rfl; have c1 := S.c 2 1 rfl rfl; have f1 := S.f 2 1 rfl; go_simp; clear hS c0 f0 c1 f1
        have H := S.hset 2 0 (.bool b) rfl rfl (by intro q n e; cases e)
        replace S := S.set 2 0 (.bool b) rfl
        refine iv4 H nm n1 nv nc ?_; clear nm n1 nv nc; intro nm n1 nv nc; replace HH := HH.trans H; clear H
        have H := S.hset 2 1 (.slice pc lc Kc) rfl rfl (by intro q n e; cases e)
        replace S := S.set 2 1 (.slice pc lc Kc) rfl
        refine iv4 H nm n1 nv nc ?_; clear nm n1 nv nc; intro nm n1 nv nc; replace HH := HH.trans H; clear H
        refine ho hKK ⟨(S.c 0 0 rfl rfl), (S.c 0 1 rfl rfl)⟩ fun hS => ?_
        generalize ((w8.setCell ⟨w3.heap.size, 0, none⟩ (.bool b)).setCell ⟨w3.heap.size, 1, none⟩ (.slice pc lc Kc)) = w9 at S nm n1 nv nc HH hS ⊢
        clear hKK KK
        refine wpAnyH_done (by kernel_rfl) ?_ _
        go_wp2_with fail
        go_meet
        case rel => exact ⟨w3.heap.size, pc, lc, Kc, rfl, S, nc, HH⟩
    case rest =>
      obtain ⟨g8, pc, lc, Kc, rfl, S, nc, HH⟩ := hcut
      obtain ⟨w10, rfl⟩ : ∃ W : World, W = wc := ⟨_, rfl⟩
      refine iv3 HH nm n1 nv ?_; clear nm n1 nv; intro nm n1 nv; clear HH; obtain ⟨c0_0, c0_1, c0_2⟩ := S.c3 0 rfl; obtain ⟨c1_0, c1_1, c1_2⟩ := S.c3 1 rfl; have c2_0 := S.c 2 0 rfl rfl; have c2_1 := S.c 2 1 rfl rfl
      obtain ⟨f1_0, f1_1, f1_2⟩ := S.f3 1 rfl
      have HP := S.putq 1 (.bool b) (.slice pc lc Kc) (.slice pv lv Kv) rfl rfl; have H := HP.2; replace S := HP.1; clear HP
      refine iv4 H nm n1 nv nc ?_; clear nm n1 nv nc; intro nm n1 nv nc
      clear H; go_wp2_with fail; obtain ⟨d1_0, d1_1, d1_2⟩ := S.c3 1 rfl
      exact bodyPost_ret (v := .tuple #[.agg #[.bool b, .slice pc lc Kc, .slice pv lv Kv], .int .i64 0]) (by simp [results, Tryz.f61, go_sem, d1_0, d1_1, d1_2]) rfl (⟨⟨_, rfl, b, pc, lc, Kc, pv, lv, Kv, rfl, by rw [HD.out.2.1.1]; exact hb, by rw [HD.out.2.1.1]; exact nc, by rw [HD.out.2.1.2, ← Nat.one_mul (2 ^ s)]; exact nv⟩, S.below⟩)
set_option maxRecDepth 100000 in
set_option maxHeartbeats 4000000 in
theorem dcmp_any {va vb : Value} {x y : Rat} {L H k1 k2 : Nat} {w : World} (ha : IsD w va x L H) (hb : IsRat w vb y) (hLH : H + L + 1 ≤ 16384) (hx : H + L + 1 ≤ 32 * k1) (hy : RB y k2) (hk : k1 + k2 ≤ 511) (c : Int) (hc : cmpR x y = c) :
    Calls Tryz.prog 49 #[va, vb] w fun ev w' => ev = .returned (.tuple #[.int .i64 c, .int .i64 0]) ∧ Below w.heap.size w w' := by
  obtain ⟨b, p, l, K, m, e, rfl, hb1, nm, hd⟩ := ha
  obtain ⟨b2, p2, l2, K2, q2, j2, J2, rfl, hb2, n2, d2⟩ := hb
  have HX := Lib.hid (And.intro hLH (And.intro (rb_dyad hd.out (k := k1) (by omega) (by omega)) (And.intro hy (And.intro hk hc))))
  clear hLH hx hy hk hc
  have S := ((St.start w).alloc 27 [.bool b, .slice p l K, .int .i64 e] (w.heap.size)).alloc 34 [.bool b2, .slice p2 l2 K2, .slice q2 j2 J2] (w.heap.size + 1)
  try simp only [List.cons_append, List.nil_append] at S
  refine iv3 S.hold nm n2 d2 ?_; clear nm n2 d2; intro nm n2 d2
  obtain ⟨c0_0, c0_1, c0_2⟩ := S.c3 0 rfl; obtain ⟨c1_0, c1_1, c1_2⟩ := S.c3 1 rfl
  go_enter Tryz.func49, Tryz.ntmps49
  go_wp2_with fail; clear c0_0 c0_1 c0_2 c1_0 c1_1 c1_2
  refine (S.call (dratio_any ⟨b, p, l, K, m, e, rfl, hb1, nm, hd⟩ HX.out.1)).mono ?_
  clear S
  rintro e w1 ⟨⟨_, rfl, b3, p3, l3, K3, q3, j3, J3, rfl, h3, n3, d3⟩, S, H⟩
  refine iv3 H nm n2 d2 ?_; clear nm n2 d2; intro nm n2 d2
  clear H; obtain ⟨c0_0, c0_1, c0_2⟩ := S.c3 0 rfl; obtain ⟨c1_0, c1_1, c1_2⟩ := S.c3 1 rfl
  have H := S.hnew 34 [.bool b3, .slice p3 l3 K3, .slice q3 j3 J3]
  replace S := S.al 34 [.bool b3, .slice p3 l3 K3, .slice q3 j3 J3] (w1.heap.size)
  refine iv5 H nm n2 d2 n3 d3 ?_; clear nm n2 d2 n3 d3; intro nm n2 d2 n3 d3
  clear H; clear c0_0 c0_1 c0_2 c1_0 c1_1 c1_2; obtain ⟨c0_0, c0_1, c0_2⟩ := S.c3 0 rfl; obtain ⟨c1_0, c1_1, c1_2⟩ := S.c3 1 rfl; obtain ⟨c2_0, c2_1, c2_2⟩ := S.c3 2 rfl; go_wp2_with fail; clear c0_0 c0_1 c0_2 c1_0 c1_1 c1_2 c2_0 c2_1 c2_2
  refine (S.call (rcompare_any ⟨b3, p3, l3, K3, q3, j3, J3, rfl, h3, n3, d3⟩ ⟨b2, p2, l2, K2, q2, j2, J2, rfl, hb2, n2, d2⟩ HX.out.2.1 HX.out.2.2.1 HX.out.2.2.2.1 c HX.out.2.2.2.2)).mono ?_
  clear S
  rintro e w2 ⟨rfl, S, H⟩
  refine iv5 H nm n2 d2 n3 d3 ?_; clear nm n2 d2 n3 d3; intro nm n2 d2 n3 d3
  clear H; obtain ⟨c0_0, c0_1, c0_2⟩ := S.c3 0 rfl; obtain ⟨c1_0, c1_1, c1_2⟩ := S.c3 1 rfl; obtain ⟨c2_0, c2_1, c2_2⟩ := S.c3 2 rfl; go_wp2_with fail
  exact bodyPost_ret (v := .tuple #[.int .i64 c, .int .i64 0]) (by simp [results, Tryz.f49, go_sem]) rfl (⟨rfl, S.below⟩)
set_option maxRecDepth 100000 in
set_option maxHeartbeats 4000000 in
theorem dnear_zero {va : Value} {w : World} (ha : IsRat w va 0) (n : Nat) (h2 : 2 ≤ n) (h4 : n ≤ 4096) (up : Bool) :
    Calls Tryz.prog 107 #[va, .int .i64 n, .bool up] w fun ev w' => ev = .returned (.tuple #[.agg #[.bool false, .slice none 0 0, .int .i64 0], .int .i64 0]) ∧ Below w.heap.size w w' := by
  obtain ⟨b, p, l, K, q, j, J, rfl, hb, nn, dd⟩ := ha
  have HN := Lib.hid (And.intro (show (2 : Int) ≤ (n : Int) by omega) (show (n : Int) ≤ 4096 by omega))
  clear h2 h4
  have S := ((St.start w).alloc 34 [.bool b, .slice p l K, .slice q j J] (w.heap.size)).alloc 27 [.bool false, .slice none 0 0, .int .i64 0] (w.heap.size + 1)
  try simp only [List.cons_append, List.nil_append] at S
  replace nn := nn.hold S.hold; replace dd := dd.hold S.hold
  obtain ⟨c0_0, c0_1, c0_2⟩ := S.c3 0 rfl; obtain ⟨c1_0, c1_1, c1_2⟩ := S.c3 1 rfl
  go_enter Tryz.func107, Tryz.ntmps107
  go_wp2_with fail; clear c0_0 c0_1 c0_2 c1_0 c1_1 c1_2
  refine (S.call (bits_in n _ HN.out.1 HN.out.2)).mono ?_
  clear S
  rintro e w1 ⟨rfl, S, H⟩
  replace nn := nn.hold H; replace dd := dd.hold H
  clear H; obtain ⟨c0_0, c0_1, c0_2⟩ := S.c3 0 rfl; obtain ⟨c1_0, c1_1, c1_2⟩ := S.c3 1 rfl; go_wp2_with fail; clear c0_0 c0_1 c0_2 c1_0 c1_1 c1_2
  refine (S.call (rsign_any (s := 0) ⟨b, p, l, K, q, j, J, rfl, hb, nn, dd⟩ (lt_maxN (by decide)) rfl)).mono ?_
  clear S
  rintro e w2 ⟨rfl, S, H⟩
  replace nn := nn.hold H; replace dd := dd.hold H
  clear H; obtain ⟨c0_0, c0_1, c0_2⟩ := S.c3 0 rfl; obtain ⟨c1_0, c1_1, c1_2⟩ := S.c3 1 rfl
  obtain ⟨f1_0, f1_1, f1_2⟩ := S.f3 1 rfl
  have HP := S.put3 1 (.bool false) (.slice none 0 0) (.int .i64 0) rfl rfl; have H := HP.2; replace S := HP.1; clear HP
  replace nn := nn.hold32 H; replace dd := dd.hold32 H
  clear H; go_wp2_with fail; obtain ⟨d1_0, d1_1, d1_2⟩ := S.c3 1 rfl
  exact bodyPost_ret (v := .tuple #[.agg #[.bool false, .slice none 0 0, .int .i64 0], .int .i64 0]) (by simp [results, Tryz.f107, go_sem, d1_0, d1_1, d1_2]) rfl (⟨rfl, S.below⟩)
set_option maxRecDepth 100000 in
set_option maxHeartbeats 8000000 in
theorem dnear_any {va : Value} {a : Rat} {w : World} (hT : Tab w) (ha : IsRat w va a) {k : Nat} (hak : RB a k) (n : Nat) (h2 : 2 ≤ n) (h4 : n ≤ 4096) (up : Bool) (h0 : a ≠ 0) (t : Nat) (ht : TailIs a.den t) (d : Nat) (hd : a.den / 2 ^ t = d) (hk : 96 * k + n + 4 ≤ 16384) (y : Rat) (hy : nearV a.num d t n up = y) :
    Calls Tryz.prog 107 #[va, .int .i64 n, .bool up] w fun ev w' => (∃ u, ev = .returned (.tuple #[u, .int .i64 0]) ∧ IsD w' u y (n + 64 * k) (32 * k + 3)) ∧ Below w.heap.size w w' := by
  obtain ⟨b, p, l, K, q, j, J, rfl, hb, nn, dd⟩ := ha
  have hmax : a.num.natAbs < maxN ∧ a.den < maxN := rb_max hak (by omega)
  have hn0 : a.num ≠ 0 := num_ne h0
  obtain ⟨s, hs⟩ : ∃ s, a.num.sign = s := ⟨_, rfl⟩
  have hs1 : (s == 0) = false := by rw [← hs]; simpa using fun h => hn0 (Int.sign_eq_zero_iff_zero.1 h)
  have hden0 := a.den_nz
  have htl := tail_le ht hden0 (nb_pb hak.2 (Nat.le_refl _))
  obtain ⟨dm, hdm⟩ : ∃ m : Nat, d = 2 * m + 1 ∧ a.den = 2 ^ t * d := by
    rcases ht with ⟨h, _⟩ | ⟨m, hm⟩
    · exact absurd h hden0
    · refine ⟨m, ?_, ?_⟩
      · rw [← hd, hm, Nat.mul_div_cancel_left _ (Nat.two_pow_pos t)]
      · rw [← hd, hm, Nat.mul_div_cancel_left _ (Nat.two_pow_pos t)]
  have hd0 : d ≠ 0 := by omega
  have hdle : d ≤ a.den := by rw [hdm.2]; exact Nat.le_mul_of_pos_left _ (Nat.two_pow_pos t)
  have hdI : (a.den : Int) / 2 ^ t = (d : Int) := by
    rw [← hd]; simp
  obtain ⟨P, hP⟩ : ∃ P, nbits a.num.natAbs = P := ⟨_, rfl⟩
  obtain ⟨Q, hQ⟩ : ∃ Q, nbits d = Q := ⟨_, rfl⟩
  have hPl : P ≤ 32 * k := by rw [← hP]; exact nbits_pb (by omega) (nb_pb hak.1 (Nat.le_refl _))
  have hQl : Q ≤ 32 * k := by rw [← hQ]; exact nbits_pb hd0 (nb_pb (Nat.lt_of_le_of_lt hdle hak.2) (Nat.le_refl _))
  obtain ⟨_, _, hP3⟩ := nbits_spec (n := a.num.natAbs) (by omega)
  obtain ⟨hQ1, hQ2, _⟩ := nbits_spec hd0
  rw [hP] at hP3
  rw [hQ] at hQ1 hQ2
  have hw1 : IntKind.i64.wrap ((n : Int) + (Q : Int)) = (n : Int) + (Q : Int) := wrap_int (by omega) (by omega)
  unfold nearV at hy
  rw [hP, hQ] at hy
  have HN := Lib.hid (And.intro (show (2 : Int) ≤ (n : Int) by omega) (show (n : Int) ≤ 4096 by omega))
  have HD := Lib.hid (And.intro hT (And.intro hmax (And.intro hs (And.intro hdI (And.intro hP (And.intro hQ (And.intro hden0 (And.intro ht (show t ≤ 9223372036854775807 by omega)))))))))
  have HM := Lib.hid (show d < maxN by omega)
  by_cases hsh : P ≤ n + Q
  · obtain ⟨g, hg⟩ : ∃ g : Nat, (n : Int) + (Q : Int) - (P : Int) = (g : Int) := ⟨n + Q - P, by omega⟩
    rw [hg, show ((g : Int)).toNat = g from rfl, show (-(g : Int)).toNat = 0 by omega, Nat.pow_zero] at hy
    have hN : a.num * 2 ^ g = a.num * ((2 ^ g : Nat) : Int) := by simp
    obtain ⟨N, hNN⟩ : ∃ N, a.num * ((2 ^ g : Nat) : Int) = N := ⟨_, rfl⟩
    rw [hNN] at hy hN
    rw [show (d : Int) * ((1 : Nat) : Int) = (d : Int) by simp] at hy
    have hNa : N.natAbs = a.num.natAbs * 2 ^ g := by rw [← hNN, Int.natAbs_mul, Int.natAbs_natCast]
    have hNb : N.natAbs < d * 2 ^ (n + 1) := by
      rw [hNa]
      calc a.num.natAbs * 2 ^ g < 2 ^ P * 2 ^ g := Nat.mul_lt_mul_of_pos_right hP3 (Nat.two_pow_pos g)
        _ = 2 ^ (Q - 1) * 2 ^ (n + 1) := by rw [← Nat.pow_add, ← Nat.pow_add]; congr 1; omega
        _ ≤ d * 2 ^ (n + 1) := Nat.mul_le_mul_right _ hQ2
    obtain ⟨z, hz⟩ : ∃ z, divI N (d : Int) up = z := ⟨_, rfl⟩
    have hzb : z.natAbs < PB (n + 2) := by
      have h1 : z.natAbs ≤ 2 ^ (n + 1) := by rw [← hz]; exact divI_bits (by omega) up hNb
      rw [PB_is]; exact Nat.lt_of_le_of_lt h1 (Nat.pow_lt_pow_right (by decide) (by omega))
    have hNm : N.natAbs < maxN := by
      refine pb_max (n := P + g) ?_ (by omega)
      rw [hNa, PB_is, Nat.pow_add]
      exact Nat.mul_lt_mul_of_pos_right hP3 (Nat.two_pow_pos g)
    obtain ⟨f, hf⟩ : ∃ f : Int, -(g : Int) - (t : Int) = f := ⟨_, rfl⟩
    have hw2 : IntKind.i64.wrap ((n : Int) + (Q : Int) - (P : Int)) = (g : Int) := by rw [wrap_int (by omega) (by omega), hg]
    have hw3 : IntKind.i64.wrap (-(g : Int)) = -(g : Int) := wrap_int (by omega) (by omega)
    have hw4 : IntKind.i64.wrap (-(g : Int) - (t : Int)) = f := by rw [wrap_int (by omega) (by omega), hf]
    have hzf : ZF z f (n + 64 * k) (32 * k + 2) := ZF.of (n := n + 2) hzb (by omega) (by omega)
    rw [hz, hf] at hy
    have HG := Lib.hid (And.intro (show g ≤ 100000 by omega) (And.intro hN (And.intro (show a.num.natAbs * 2 ^ g < maxN by rw [← hNa]; exact hNm) (And.intro hNm (And.intro hz (And.intro (show (0 : Int) < (d : Int) by omega) (pb_max hzb (by omega))))))))
    have HY := Lib.hid (And.intro hzf (And.intro hy (And.intro (show 32 * k + 2 + 1 + (n + 64 * k) ≤ 16384 by omega) (And.intro h2 h4))))
    clear hN hNN hNa hNb hNm hz hzb hzf hy hf hg hT hak h2 h4 h0 ht hd hk hmax hn0 hs hden0 htl hdm hd0 hdle hdI hP hQ hPl hQl hP3 hQ1 hQ2 hsh
    have S := ((St.start w).alloc 34 [.bool b, .slice p l K, .slice q j J] (w.heap.size)).alloc 27 [.bool false, .slice none 0 0, .int .i64 0] (w.heap.size + 1)
    try simp only [List.cons_append, List.nil_append] at S
    replace nn := nn.hold S.hold; replace dd := dd.hold S.hold
    obtain ⟨c0_0, c0_1, c0_2⟩ := S.c3 0 rfl; obtain ⟨c1_0, c1_1, c1_2⟩ := S.c3 1 rfl
    go_enter Tryz.func107, Tryz.ntmps107
    go_wp2_with fail; clear c0_0 c0_1 c0_2 c1_0 c1_1 c1_2
    refine (S.call (bits_in n _ HN.out.1 HN.out.2)).mono ?_
    clear S
    rintro e w1 ⟨rfl, S, H⟩
    replace nn := nn.hold H; replace dd := dd.hold H
    clear H; obtain ⟨c0_0, c0_1, c0_2⟩ := S.c3 0 rfl; obtain ⟨c1_0, c1_1, c1_2⟩ := S.c3 1 rfl; go_wp2_with fail; clear c0_0 c0_1 c0_2 c1_0 c1_1 c1_2
    refine (S.call (rsign_any ⟨b, p, l, K, q, j, J, rfl, hb, nn, dd⟩ HD.out.2.1.1 HD.out.2.2.1)).mono ?_
    clear S
    rintro e w2 ⟨rfl, S, H⟩
    replace nn := nn.hold H; replace dd := dd.hold H
    clear H; obtain ⟨c0_0, c0_1, c0_2⟩ := S.c3 0 rfl; obtain ⟨c1_0, c1_1, c1_2⟩ := S.c3 1 rfl; go_wp2_with fail; clear c0_0 c0_1 c0_2 c1_0 c1_1 c1_2
    refine (S.call (tail_nat' dd HD.out.2.1.2 (HD.out.1.below S.below))).mono ?_
    clear S
    rintro e w3 ⟨⟨t', rfl, ht'⟩, S, H⟩
    replace nn := nn.hold H; replace dd := dd.hold H
    clear H; obtain ⟨c0_0, c0_1, c0_2⟩ := S.c3 0 rfl; obtain ⟨c1_0, c1_1, c1_2⟩ := S.c3 1 rfl
    obtain rfl : t' = t := tail_uniq HD.out.2.2.2.2.2.2.1 ht'.out HD.out.2.2.2.2.2.2.2.1
    clear ht'; go_wp2_with fail; clear c0_0 c0_1 c0_2 c1_0 c1_1 c1_2
    refine (S.call (wnat_any dd HD.out.2.1.2 (a.den : Int) rfl)).mono ?_
    clear S
    rintro e w4 ⟨⟨_, rfl, pe, le, Ke, rfl, ne⟩, S, H⟩
    replace nn := nn.hold H; replace dd := dd.hold H
    clear H; obtain ⟨c0_0, c0_1, c0_2⟩ := S.c3 0 rfl; obtain ⟨c1_0, c1_1, c1_2⟩ := S.c3 1 rfl; go_wp2_with fail; clear c0_0 c0_1 c0_2 c1_0 c1_1 c1_2
    refine (S.call (wright_any (HD.out.1.below S.below) ⟨_, _, _, rfl, ne⟩ HD.out.2.1.2 t' HD.out.2.2.2.2.2.2.2.2 (d : Int) HD.out.2.2.2.1)).mono ?_
    clear S
    rintro e w5 ⟨⟨_, rfl, pd, ld, Kd, rfl, nd⟩, S, H⟩
    refine iv3 H nn dd ne ?_; clear nn dd ne; intro nn dd ne
    clear H; obtain ⟨c0_0, c0_1, c0_2⟩ := S.c3 0 rfl; obtain ⟨c1_0, c1_1, c1_2⟩ := S.c3 1 rfl
    have H := S.hnew 25 [.bool (negB (d : Int)), .slice pd ld Kd]
    replace S := S.al 25 [.bool (negB (d : Int)), .slice pd ld Kd] (w5.heap.size)
    refine iv4 H nn dd ne nd ?_; clear nn dd ne nd; intro nn dd ne nd
    clear H; clear c0_0 c0_1 c0_2 c1_0 c1_1 c1_2; obtain ⟨c0_0, c0_1, c0_2⟩ := S.c3 0 rfl; obtain ⟨c1_0, c1_1, c1_2⟩ := S.c3 1 rfl; have c2_0 := S.c 2 0 rfl rfl; have c2_1 := S.c 2 1 rfl rfl
    go_upto_region 9 with fail
    clear c0_0 c0_1 c0_2 c1_0 c1_1 c1_2 c2_0 c2_1
    replace nn := nn.hold (Hold.drew _); replace dd := dd.hold (Hold.drew _); replace ne := ne.hold (Hold.drew _); replace nd := nd.hold (Hold.drew _)
    replace S := S.drew
    refine wp_region_held_drew (S := fun W => W.cell? ⟨w.heap.size, 1, none⟩ = some (.slice p l K) ∧ W.cell? ⟨w5.heap.size, 1, none⟩ = some (.slice pd ld Kd)) (by kernel_rfl) ⟨(S.c 0 1 rfl rfl), (S.c 2 1 rfl rfl)⟩ (fun hS => ?_)
    refine tk 0 hS ?_
    refine tk 1 hS ?_
    refine tk 2 hS ?_
    refine tk 5 hS ?_
    refine tk 6 hS ?_
    refine tk 7 hS ?_
    refine rd 3 fun KK hKK => ?_
    go_simp
    refine (S.call (bits_nat nd HM.out HD.out.2.2.2.2.2.1)).mono ?_; clear S; rintro e w6 ⟨rfl, S, H⟩; refine iv4 H nn dd ne nd ?_; clear nn dd ne nd; intro nn dd ne nd; clear H
    go_wp2_with fail
    refine ho hKK ⟨(S.c 0 1 rfl rfl), (S.c 2 1 rfl rfl)⟩ fun hS => ?_
    clear hKK KK
    refine tk 4 hS ?_
    refine rd 8 fun KK hKK => ?_
    go_simp
    refine (S.call (bits_nat nn HD.out.2.1.1 HD.out.2.2.2.2.1)).mono ?_; clear S; rintro e w7 ⟨rfl, S, H⟩; refine iv4 H nn dd ne nd ?_; clear nn dd ne nd; intro nn dd ne nd; clear H
    go_wp2_with fail
    refine ho hKK ⟨(S.c 0 1 rfl rfl), (S.c 2 1 rfl rfl)⟩ fun hS => ?_
    clear hKK KK
    refine tk 9 hS ?_
    refine rd 10 fun KK hKK => ?_
    go_simp
    refine ho hKK ⟨(S.c 0 1 rfl rfl), (S.c 2 1 rfl rfl)⟩ fun hS => ?_
    clear hKK KK
    refine wpAnyH_done (by kernel_rfl) ?_ _
    obtain ⟨c0_0, c0_1, c0_2⟩ := S.c3 0 rfl; obtain ⟨c1_0, c1_1, c1_2⟩ := S.c3 1 rfl; have c2_0 := S.c 2 0 rfl rfl; have c2_1 := S.c 2 1 rfl rfl; go_wp2_with fail; clear c0_0 c0_1 c0_2 c1_0 c1_1 c1_2 c2_0 c2_1
    refine (S.call (divided_pos ⟨_, _, _, by rw [hb.out], nn⟩ ⟨_, _, _, rfl, nd⟩ HD.out.2.1.1 HM.out g HG.out.1 N (d : Int) HG.out.2.1 rfl HG.out.2.2.1 HG.out.2.2.2.1 HM.out HG.out.2.2.2.2.2.1 up z HG.out.2.2.2.2.1 HG.out.2.2.2.2.2.2)).mono ?_
    clear S
    rintro e w8 ⟨⟨_, rfl, pz, lz, Kz, rfl, nz⟩, S, H⟩
    refine iv4 H nn dd ne nd ?_; clear nn dd ne nd; intro nn dd ne nd
    clear H; obtain ⟨c0_0, c0_1, c0_2⟩ := S.c3 0 rfl; obtain ⟨c1_0, c1_1, c1_2⟩ := S.c3 1 rfl; have c2_0 := S.c 2 0 rfl rfl; have c2_1 := S.c 2 1 rfl rfl
    have H := S.hnew 25 [.bool (negB z), .slice pz lz Kz]
    replace S := S.al 25 [.bool (negB z), .slice pz lz Kz] (w8.heap.size)
    refine iv5 H nn dd ne nd nz ?_; clear nn dd ne nd nz; intro nn dd ne nd nz
    clear H; clear c0_0 c0_1 c0_2 c1_0 c1_1 c1_2 c2_0 c2_1; obtain ⟨c0_0, c0_1, c0_2⟩ := S.c3 0 rfl; obtain ⟨c1_0, c1_1, c1_2⟩ := S.c3 1 rfl; have c2_0 := S.c 2 0 rfl rfl; have c2_1 := S.c 2 1 rfl rfl; have c3_0 := S.c 3 0 rfl rfl; have c3_1 := S.c 3 1 rfl rfl; go_wp2_with fail; clear c0_0 c0_1 c0_2 c1_0 c1_1 c1_2 c2_0 c2_1 c3_0 c3_1
    refine (S.call (dtimes_any (HD.out.1.below S.below) ⟨_, _, _, rfl, nz⟩ HY.out.1 (by have := HY.out.2.2.1; omega) (dq z f) rfl)).mono ?_
    clear S
    rintro e w9 ⟨⟨_, rfl, b4, p4, l4, K4, m4, e4, rfl, h4, n4, d4⟩, S, H⟩
    refine iv5 H nn dd ne nd nz ?_; clear nn dd ne nd nz; intro nn dd ne nd nz
    clear H; obtain ⟨c0_0, c0_1, c0_2⟩ := S.c3 0 rfl; obtain ⟨c1_0, c1_1, c1_2⟩ := S.c3 1 rfl; have c2_0 := S.c 2 0 rfl rfl; have c2_1 := S.c 2 1 rfl rfl; have c3_0 := S.c 3 0 rfl rfl; have c3_1 := S.c 3 1 rfl rfl
    have H := S.hnew 27 [.bool b4, .slice p4 l4 K4, .int .i64 e4]
    replace S := S.al 27 [.bool b4, .slice p4 l4 K4, .int .i64 e4] (w9.heap.size)
    refine iv6 H nn dd ne nd nz n4 ?_; clear nn dd ne nd nz n4; intro nn dd ne nd nz n4
    clear H; clear c0_0 c0_1 c0_2 c1_0 c1_1 c1_2 c2_0 c2_1 c3_0 c3_1; obtain ⟨c0_0, c0_1, c0_2⟩ := S.c3 0 rfl; obtain ⟨c1_0, c1_1, c1_2⟩ := S.c3 1 rfl; have c2_0 := S.c 2 0 rfl rfl; have c2_1 := S.c 2 1 rfl rfl; have c3_0 := S.c 3 0 rfl rfl; have c3_1 := S.c 3 1 rfl rfl; obtain ⟨c4_0, c4_1, c4_2⟩ := S.c3 4 rfl; go_wp2_with fail; clear c0_0 c0_1 c0_2 c1_0 c1_1 c1_2 c2_0 c2_1 c3_0 c3_1 c4_0 c4_1 c4_2
    refine (S.call (dround_any (HD.out.1.below S.below) h4 n4 d4 HY.out.2.2.1 n HY.out.2.2.2.1 HY.out.2.2.2.2 up y (by rw [rnd_canon d4.out.1 d4.out.2.2]; exact HY.out.2.1))).mono ?_
    clear S
    rintro e w10 ⟨⟨_, rfl, b3, p3, l3, K3, m3, e3, rfl, h3, n3, d3⟩, S, H⟩
    refine iv6 H nn dd ne nd nz n4 ?_; clear nn dd ne nd nz n4; intro nn dd ne nd nz n4
    clear H; obtain ⟨c0_0, c0_1, c0_2⟩ := S.c3 0 rfl; obtain ⟨c1_0, c1_1, c1_2⟩ := S.c3 1 rfl; have c2_0 := S.c 2 0 rfl rfl; have c2_1 := S.c 2 1 rfl rfl; have c3_0 := S.c 3 0 rfl rfl; have c3_1 := S.c 3 1 rfl rfl; obtain ⟨c4_0, c4_1, c4_2⟩ := S.c3 4 rfl
    obtain ⟨f1_0, f1_1, f1_2⟩ := S.f3 1 rfl
    have HP := S.put3 1 (.bool b3) (.slice p3 l3 K3) (.int .i64 e3) rfl rfl; have H := HP.2; replace S := HP.1; clear HP
    refine iw7 H nn dd ne nd nz n4 n3 ?_; clear nn dd ne nd nz n4 n3; intro nn dd ne nd nz n4 n3
    clear H; go_wp2_with fail; obtain ⟨d1_0, d1_1, d1_2⟩ := S.c3 1 rfl
    exact bodyPost_ret (v := .tuple #[.agg #[.bool b3, .slice p3 l3 K3, .int .i64 e3], .int .i64 0]) (by simp [results, Tryz.f107, go_sem, d1_0, d1_1, d1_2]) rfl (⟨⟨_, rfl, b3, p3, l3, K3, m3, e3, rfl, h3, n3, d3⟩, S.below⟩)
  · obtain ⟨g, hg⟩ : ∃ g : Nat, (n : Int) + (Q : Int) - (P : Int) = -(g : Int) ∧ 1 ≤ g := ⟨P - (n + Q), by omega, by omega⟩
    obtain ⟨hg, hg1⟩ := hg
    rw [hg, show (-(g : Int)).toNat = 0 by omega, show (-(-(g : Int))).toNat = g by omega, Nat.pow_zero] at hy
    have hN : (d : Int) * 2 ^ g = ((d * 2 ^ g : Nat) : Int) := by simp
    obtain ⟨D, hDD⟩ : ∃ D, d * 2 ^ g = D := ⟨_, rfl⟩
    rw [show a.num * ((1 : Nat) : Int) = a.num by simp, show (d : Int) * ((2 ^ g : Nat) : Int) = ((d * 2 ^ g : Nat) : Int) by simp, hDD] at hy
    rw [hDD] at hN
    have hD0 : 0 < D := by rw [← hDD]; exact Nat.mul_pos (by omega) (Nat.two_pow_pos g)
    have hNb : a.num.natAbs < D * 2 ^ (n + 1) := by
      rw [← hDD]
      calc a.num.natAbs < 2 ^ P := hP3
        _ = 2 ^ (Q - 1) * 2 ^ g * 2 ^ (n + 1) := by rw [← Nat.pow_add, ← Nat.pow_add]; congr 1; omega
        _ ≤ d * 2 ^ g * 2 ^ (n + 1) := Nat.mul_le_mul_right _ (Nat.mul_le_mul_right _ hQ2)
    obtain ⟨z, hz⟩ : ∃ z, divI a.num (D : Int) up = z := ⟨_, rfl⟩
    have hzb : z.natAbs < PB (n + 2) := by
      have h1 : z.natAbs ≤ 2 ^ (n + 1) := by rw [← hz]; exact divI_bits hD0 up hNb
      rw [PB_is]; exact Nat.lt_of_le_of_lt h1 (Nat.pow_lt_pow_right (by decide) (by omega))
    have hDm : D < maxN := by
      refine pb_max (n := Q + g) ?_ (by omega)
      have hQ3 := (nbits_spec hd0).2.2
      rw [hQ] at hQ3
      rw [← hDD, PB_is, Nat.pow_add]
      exact Nat.mul_lt_mul_of_pos_right hQ3 (Nat.two_pow_pos g)
    obtain ⟨f, hf⟩ : ∃ f : Int, (g : Int) - (t : Int) = f := ⟨_, rfl⟩
    have hw2 : IntKind.i64.wrap ((n : Int) + (Q : Int) - (P : Int)) = -(g : Int) := by rw [wrap_int (by omega) (by omega), hg]
    have hw3 : IntKind.i64.wrap (g : Int) = (g : Int) := wrap_int (by omega) (by omega)
    have hw4 : IntKind.i64.wrap ((g : Int) - (t : Int)) = f := by rw [wrap_int (by omega) (by omega), hf]
    rw [show -(-(g : Int)) = (g : Int) by omega] at hy
    have hzf : ZF z f (n + 64 * k) (32 * k + 2) := ZF.of (n := n + 2) hzb (by omega) (by omega)
    rw [hz, hf] at hy
    have HG := Lib.hid (And.intro (show g ≤ 100000 by omega) (And.intro hN (And.intro (show d * 2 ^ g < maxN by rw [hDD]; exact hDm) (And.intro (show ((D : Nat) : Int).natAbs < maxN from hDm) (And.intro hz (And.intro (show (0 : Int) < (D : Int) by omega) (And.intro (pb_max hzb (by omega)) hg1)))))))
    have HY := Lib.hid (And.intro hzf (And.intro hy (And.intro (show 32 * k + 2 + 1 + (n + 64 * k) ≤ 16384 by omega) (And.intro h2 h4))))
    clear hN hDD hD0 hNb hDm hg1 hz hzb hzf hy hf hg hT hak h2 h4 h0 ht hd hk hmax hn0 hs hden0 htl hdm hd0 hdle hdI hP hQ hPl hQl hP3 hQ1 hQ2 hsh
    have S := ((St.start w).alloc 34 [.bool b, .slice p l K, .slice q j J] (w.heap.size)).alloc 27 [.bool false, .slice none 0 0, .int .i64 0] (w.heap.size + 1)
    try simp only [List.cons_append, List.nil_append] at S
    replace nn := nn.hold S.hold; replace dd := dd.hold S.hold
    obtain ⟨c0_0, c0_1, c0_2⟩ := S.c3 0 rfl; obtain ⟨c1_0, c1_1, c1_2⟩ := S.c3 1 rfl
    go_enter Tryz.func107, Tryz.ntmps107
    go_wp2_with fail; clear c0_0 c0_1 c0_2 c1_0 c1_1 c1_2
    refine (S.call (bits_in n _ HN.out.1 HN.out.2)).mono ?_
    clear S
    rintro e w1 ⟨rfl, S, H⟩
    replace nn := nn.hold H; replace dd := dd.hold H
    clear H; obtain ⟨c0_0, c0_1, c0_2⟩ := S.c3 0 rfl; obtain ⟨c1_0, c1_1, c1_2⟩ := S.c3 1 rfl; go_wp2_with fail; clear c0_0 c0_1 c0_2 c1_0 c1_1 c1_2
    refine (S.call (rsign_any ⟨b, p, l, K, q, j, J, rfl, hb, nn, dd⟩ HD.out.2.1.1 HD.out.2.2.1)).mono ?_
    clear S
    rintro e w2 ⟨rfl, S, H⟩
    replace nn := nn.hold H; replace dd := dd.hold H
    clear H; obtain ⟨c0_0, c0_1, c0_2⟩ := S.c3 0 rfl; obtain ⟨c1_0, c1_1, c1_2⟩ := S.c3 1 rfl; go_wp2_with fail; clear c0_0 c0_1 c0_2 c1_0 c1_1 c1_2
    refine (S.call (tail_nat' dd HD.out.2.1.2 (HD.out.1.below S.below))).mono ?_
    clear S
    rintro e w3 ⟨⟨t', rfl, ht'⟩, S, H⟩
    replace nn := nn.hold H; replace dd := dd.hold H
    clear H; obtain ⟨c0_0, c0_1, c0_2⟩ := S.c3 0 rfl; obtain ⟨c1_0, c1_1, c1_2⟩ := S.c3 1 rfl
    obtain rfl : t' = t := tail_uniq HD.out.2.2.2.2.2.2.1 ht'.out HD.out.2.2.2.2.2.2.2.1
    clear ht'; go_wp2_with fail; clear c0_0 c0_1 c0_2 c1_0 c1_1 c1_2
    refine (S.call (wnat_any dd HD.out.2.1.2 (a.den : Int) rfl)).mono ?_
    clear S
    rintro e w4 ⟨⟨_, rfl, pe, le, Ke, rfl, ne⟩, S, H⟩
    replace nn := nn.hold H; replace dd := dd.hold H
    clear H; obtain ⟨c0_0, c0_1, c0_2⟩ := S.c3 0 rfl; obtain ⟨c1_0, c1_1, c1_2⟩ := S.c3 1 rfl; go_wp2_with fail; clear c0_0 c0_1 c0_2 c1_0 c1_1 c1_2
    refine (S.call (wright_any (HD.out.1.below S.below) ⟨_, _, _, rfl, ne⟩ HD.out.2.1.2 t' HD.out.2.2.2.2.2.2.2.2 (d : Int) HD.out.2.2.2.1)).mono ?_
    clear S
    rintro e w5 ⟨⟨_, rfl, pd, ld, Kd, rfl, nd⟩, S, H⟩
    refine iv3 H nn dd ne ?_; clear nn dd ne; intro nn dd ne
    clear H; obtain ⟨c0_0, c0_1, c0_2⟩ := S.c3 0 rfl; obtain ⟨c1_0, c1_1, c1_2⟩ := S.c3 1 rfl
    have H := S.hnew 25 [.bool (negB (d : Int)), .slice pd ld Kd]
    replace S := S.al 25 [.bool (negB (d : Int)), .slice pd ld Kd] (w5.heap.size)
    refine iv4 H nn dd ne nd ?_; clear nn dd ne nd; intro nn dd ne nd
    clear H; clear c0_0 c0_1 c0_2 c1_0 c1_1 c1_2; obtain ⟨c0_0, c0_1, c0_2⟩ := S.c3 0 rfl; obtain ⟨c1_0, c1_1, c1_2⟩ := S.c3 1 rfl; have c2_0 := S.c 2 0 rfl rfl; have c2_1 := S.c 2 1 rfl rfl
    go_upto_region 9 with fail
    clear c0_0 c0_1 c0_2 c1_0 c1_1 c1_2 c2_0 c2_1
    replace nn := nn.hold (Hold.drew _); replace dd := dd.hold (Hold.drew _); replace ne := ne.hold (Hold.drew _); replace nd := nd.hold (Hold.drew _)
    replace S := S.drew
    refine wp_region_held_drew (S := fun W => W.cell? ⟨w.heap.size, 1, none⟩ = some (.slice p l K) ∧ W.cell? ⟨w5.heap.size, 1, none⟩ = some (.slice pd ld Kd)) (by kernel_rfl) ⟨(S.c 0 1 rfl rfl), (S.c 2 1 rfl rfl)⟩ (fun hS => ?_)
    refine tk 0 hS ?_
    refine tk 1 hS ?_
    refine tk 2 hS ?_
    refine tk 5 hS ?_
    refine tk 6 hS ?_
    refine tk 7 hS ?_
    refine rd 3 fun KK hKK => ?_
    go_simp
    refine (S.call (bits_nat nd HM.out HD.out.2.2.2.2.2.1)).mono ?_; clear S; rintro e w6 ⟨rfl, S, H⟩; refine iv4 H nn dd ne nd ?_; clear nn dd ne nd; intro nn dd ne nd; clear H
    go_wp2_with fail
    refine ho hKK ⟨(S.c 0 1 rfl rfl), (S.c 2 1 rfl rfl)⟩ fun hS => ?_
    clear hKK KK
    refine tk 4 hS ?_
    refine rd 8 fun KK hKK => ?_
    go_simp
    refine (S.call (bits_nat nn HD.out.2.1.1 HD.out.2.2.2.2.1)).mono ?_; clear S; rintro e w7 ⟨rfl, S, H⟩; refine iv4 H nn dd ne nd ?_; clear nn dd ne nd; intro nn dd ne nd; clear H
    go_wp2_with fail
    refine ho hKK ⟨(S.c 0 1 rfl rfl), (S.c 2 1 rfl rfl)⟩ fun hS => ?_
    clear hKK KK
    refine tk 9 hS ?_
    refine rd 10 fun KK hKK => ?_
    go_simp
    refine ho hKK ⟨(S.c 0 1 rfl rfl), (S.c 2 1 rfl rfl)⟩ fun hS => ?_
    clear hKK KK
    refine wpAnyH_done (by kernel_rfl) ?_ _
    obtain ⟨c0_0, c0_1, c0_2⟩ := S.c3 0 rfl; obtain ⟨c1_0, c1_1, c1_2⟩ := S.c3 1 rfl; have c2_0 := S.c 2 0 rfl rfl; have c2_1 := S.c 2 1 rfl rfl; go_wp2_with fail; clear c0_0 c0_1 c0_2 c1_0 c1_1 c1_2 c2_0 c2_1
    refine (S.call (divided_neg ⟨_, _, _, by rw [hb.out], nn⟩ ⟨_, _, _, rfl, nd⟩ HD.out.2.1.1 HM.out g HG.out.1 HG.out.2.2.2.2.2.2.2 a.num (D : Int) rfl HG.out.2.1 HG.out.2.2.1 HD.out.2.1.1 HG.out.2.2.2.1 HG.out.2.2.2.2.2.1 up z HG.out.2.2.2.2.1 HG.out.2.2.2.2.2.2.1)).mono ?_
    clear S
    rintro e w8 ⟨⟨_, rfl, pz, lz, Kz, rfl, nz⟩, S, H⟩
    refine iv4 H nn dd ne nd ?_; clear nn dd ne nd; intro nn dd ne nd
    clear H; obtain ⟨c0_0, c0_1, c0_2⟩ := S.c3 0 rfl; obtain ⟨c1_0, c1_1, c1_2⟩ := S.c3 1 rfl; have c2_0 := S.c 2 0 rfl rfl; have c2_1 := S.c 2 1 rfl rfl
    have H := S.hnew 25 [.bool (negB z), .slice pz lz Kz]
    replace S := S.al 25 [.bool (negB z), .slice pz lz Kz] (w8.heap.size)
    refine iv5 H nn dd ne nd nz ?_; clear nn dd ne nd nz; intro nn dd ne nd nz
    clear H; clear c0_0 c0_1 c0_2 c1_0 c1_1 c1_2 c2_0 c2_1; obtain ⟨c0_0, c0_1, c0_2⟩ := S.c3 0 rfl; obtain ⟨c1_0, c1_1, c1_2⟩ := S.c3 1 rfl; have c2_0 := S.c 2 0 rfl rfl; have c2_1 := S.c 2 1 rfl rfl; have c3_0 := S.c 3 0 rfl rfl; have c3_1 := S.c 3 1 rfl rfl; go_wp2_with fail; clear c0_0 c0_1 c0_2 c1_0 c1_1 c1_2 c2_0 c2_1 c3_0 c3_1
    refine (S.call (dtimes_any (HD.out.1.below S.below) ⟨_, _, _, rfl, nz⟩ HY.out.1 (by have := HY.out.2.2.1; omega) (dq z f) rfl)).mono ?_
    clear S
    rintro e w9 ⟨⟨_, rfl, b4, p4, l4, K4, m4, e4, rfl, h4, n4, d4⟩, S, H⟩
    refine iv5 H nn dd ne nd nz ?_; clear nn dd ne nd nz; intro nn dd ne nd nz
    clear H; obtain ⟨c0_0, c0_1, c0_2⟩ := S.c3 0 rfl; obtain ⟨c1_0, c1_1, c1_2⟩ := S.c3 1 rfl; have c2_0 := S.c 2 0 rfl rfl; have c2_1 := S.c 2 1 rfl rfl; have c3_0 := S.c 3 0 rfl rfl; have c3_1 := S.c 3 1 rfl rfl
    have H := S.hnew 27 [.bool b4, .slice p4 l4 K4, .int .i64 e4]
    replace S := S.al 27 [.bool b4, .slice p4 l4 K4, .int .i64 e4] (w9.heap.size)
    refine iv6 H nn dd ne nd nz n4 ?_; clear nn dd ne nd nz n4; intro nn dd ne nd nz n4
    clear H; clear c0_0 c0_1 c0_2 c1_0 c1_1 c1_2 c2_0 c2_1 c3_0 c3_1; obtain ⟨c0_0, c0_1, c0_2⟩ := S.c3 0 rfl; obtain ⟨c1_0, c1_1, c1_2⟩ := S.c3 1 rfl; have c2_0 := S.c 2 0 rfl rfl; have c2_1 := S.c 2 1 rfl rfl; have c3_0 := S.c 3 0 rfl rfl; have c3_1 := S.c 3 1 rfl rfl; obtain ⟨c4_0, c4_1, c4_2⟩ := S.c3 4 rfl; go_wp2_with fail; clear c0_0 c0_1 c0_2 c1_0 c1_1 c1_2 c2_0 c2_1 c3_0 c3_1 c4_0 c4_1 c4_2
    refine (S.call (dround_any (HD.out.1.below S.below) h4 n4 d4 HY.out.2.2.1 n HY.out.2.2.2.1 HY.out.2.2.2.2 up y (by rw [rnd_canon d4.out.1 d4.out.2.2]; exact HY.out.2.1))).mono ?_
    clear S
    rintro e w10 ⟨⟨_, rfl, b3, p3, l3, K3, m3, e3, rfl, h3, n3, d3⟩, S, H⟩
    refine iv6 H nn dd ne nd nz n4 ?_; clear nn dd ne nd nz n4; intro nn dd ne nd nz n4
    clear H; obtain ⟨c0_0, c0_1, c0_2⟩ := S.c3 0 rfl; obtain ⟨c1_0, c1_1, c1_2⟩ := S.c3 1 rfl; have c2_0 := S.c 2 0 rfl rfl; have c2_1 := S.c 2 1 rfl rfl; have c3_0 := S.c 3 0 rfl rfl; have c3_1 := S.c 3 1 rfl rfl; obtain ⟨c4_0, c4_1, c4_2⟩ := S.c3 4 rfl
    obtain ⟨f1_0, f1_1, f1_2⟩ := S.f3 1 rfl
    have HP := S.put3 1 (.bool b3) (.slice p3 l3 K3) (.int .i64 e3) rfl rfl; have H := HP.2; replace S := HP.1; clear HP
    refine iw7 H nn dd ne nd nz n4 n3 ?_; clear nn dd ne nd nz n4 n3; intro nn dd ne nd nz n4 n3
    clear H; go_wp2_with fail; obtain ⟨d1_0, d1_1, d1_2⟩ := S.c3 1 rfl
    exact bodyPost_ret (v := .tuple #[.agg #[.bool b3, .slice p3 l3 K3, .int .i64 e3], .int .i64 0]) (by simp [results, Tryz.f107, go_sem, d1_0, d1_1, d1_2]) rfl (⟨⟨_, rfl, b3, p3, l3, K3, m3, e3, rfl, h3, n3, d3⟩, S.below⟩)
theorem zip_snocSSS {F : Rat × Rat → Rat × Rat → Rat × Rat} : ∀ {xs : List (Rat × Rat)} {ys : List (Rat × Rat)} {k : Nat} {x : Rat × Rat} {y : Rat × Rat}, xs[k]? = some x → ys[k]? = some y → (List.zipWith F xs ys).take (k + 1) = (List.zipWith F xs ys).take k ++ [F x y]
  | [], _, _, _, _, h, _ => by simp at h
  | _ :: _, [], _, _, _, _, h => by simp at h
  | a :: xs, b :: ys, 0, x, y, h1, h2 => by simp at h1 h2; subst h1 h2; simp
  | a :: xs, b :: ys, k + 1, x, y, h1, h2 => by
    have := zip_snocSSS (F := F) (xs := xs) (ys := ys) (k := k) (by simpa using h1) (by simpa using h2)
    simp [this]
set_option maxRecDepth 100000 in
set_option maxHeartbeats 4000000 in
theorem vpaSSS_any {va vb : Value} {xs : List (Rat × Rat)} {ys : List (Rat × Rat)} {w : World} {La Ha : Nat} {Lb Hb : Nat} {Lr Hr : Nat} (ha : Spans w va xs La Ha) (hb : Spans w vb ys Lb Hb) (n : Nat) (hla : xs.length = n) (hlb : ys.length = n) (hn : n ≤ 1000000) (fid : FuncId) (cp : Value) (F : Rat × Rat → Rat × Rat → Rat × Rat) (hcf : ∀ (u v : Value) (W : World), Sem.run Tryz.prog (callFunc fid #[u, v, cp]) W = .ok (.enter fid #[u, v, cp]) W)
    (hf : ∀ (W : World) (u v : Value) (k : Nat) (x : Rat × Rat) (y : Rat × Rat), Below w.heap.size w W → xs[k]? = some x → ys[k]? = some y → IsSp W u x.1 x.2 La Ha → IsSp W v y.1 y.2 Lb Hb → Calls Tryz.prog fid #[u, v, cp] W fun e w' => (∃ r, e = .returned (.tuple #[r, .int .i64 0]) ∧ IsSp w' r (F x y).1 (F x y).2 Lr Hr) ∧ Below W.heap.size W w') :
    Calls Tryz.prog 97 #[va, vb, .func (.func fid) #[] #[cp]] w fun e w' => (∃ v, e = .returned (.tuple #[v, .int .i64 0]) ∧ FreshS w w' v (List.zipWith F xs ys) Lr Hr) ∧ Below w.heap.size w w' := by
  have hz : (List.zipWith F xs ys).length = n := by simp [hla, hlb]
  obtain ⟨r1, s1, ca1, rfl, hr1⟩ := ha.form
  have HG1 := Lib.hid hr1
  clear hr1
  obtain ⟨r2, s2, ca2, rfl, hr2⟩ := hb.form
  have HG2 := Lib.hid hr2
  clear hr2
  rw [hla] at ha ⊢
  rw [hlb] at hb ⊢
  have HI := Lib.hid (And.intro ha (And.intro hb (And.intro hf (And.intro hz hn))))
  clear ha hb hf hz
  have S := St.start w
  go_enter Tryz.func97, Tryz.ntmps97
  go_upto_region 4 with (at_make; refine make_spans S rfl _ _ rfl _ _ n rfl rfl ?hL ?hC ?hn (fun w3 S3 hB3 => ?_))
  case hL => rfl
  case hC => rfl
  case hn => omega
  simp only [List.nil_append] at S3
  replace S := S3
  clear S3 hB3; go_wp2_with fail
  go_loopw [22] (fun si wr => ∃ k : Nat, k ≤ n ∧ si = .int .i64 k ∧ ∃ vs, SL wr Lr Hr vs ((List.zipWith F xs ys).take k) ∧ St w wr [(w.heap.size, 29, vs ++ zr6 (n - k))]) (fun si _ => n - (intOf si).toNat)
  case atStart => exact ⟨0, by omega, rfl, [], trivial, S⟩
  case round =>
    clear S
    obtain ⟨k, hk, rfl, vs, hv, S⟩ := hrel
    by_cases hlt : k < n
    · obtain ⟨r, hr⟩ : ∃ r, n - k = r + 1 := ⟨n - k - 1, by omega⟩
      rw [hr] at S
      have hl : vs.length = k * 6 := by rw [hv.len, List.length_take, HI.out.2.2.2.1]; omega
      obtain ⟨z1, b1, p1, l1, K1, m1, e1, c1, q1, j1, J1, o1, f1, hq1, a1_0, a1_1, a1_2, a1_3, a1_4, a1_5, h1, n1, x1, g1, d1, y1⟩ := HI.out.1.get hlt
      have hr1 := HG1.out
      replace a1_0 := (S.below.cell (p := ⟨r1, s1 + k * 6, none⟩) hr1).trans a1_0
      replace a1_1 := (S.below.cell (p := ⟨r1, s1 + k * 6 + 1, none⟩) hr1).trans a1_1
      replace a1_2 := (S.below.cell (p := ⟨r1, s1 + k * 6 + 2, none⟩) hr1).trans a1_2
      replace a1_3 := (S.below.cell (p := ⟨r1, s1 + k * 6 + 3, none⟩) hr1).trans a1_3
      replace a1_4 := (S.below.cell (p := ⟨r1, s1 + k * 6 + 4, none⟩) hr1).trans a1_4
      replace a1_5 := (S.below.cell (p := ⟨r1, s1 + k * 6 + 5, none⟩) hr1).trans a1_5
      obtain ⟨z2, b2, p2, l2, K2, m2, e2, c2, q2, j2, J2, o2, f2, hq2, a2_0, a2_1, a2_2, a2_3, a2_4, a2_5, h2, n2, x2, g2, d2, y2⟩ := HI.out.2.1.get hlt
      have hr2 := HG2.out
      have HC := Lib.hid (And.intro hr2 (And.intro a2_0 (And.intro a2_1 (And.intro a2_2 (And.intro a2_3 (And.intro a2_4 a2_5))))))
      clear a2_0 a2_1 a2_2 a2_3 a2_4 a2_5
      have HQ := Lib.hid (And.intro hl (And.intro hlt (And.intro hr (And.intro hq1 (And.intro hq2 hr2)))))
      have hki : (k : Int) < ((n : Nat) : Int) := by omega
      replace n1 := n1.below S.below (Nat.le_refl _); replace d1 := d1.below S.below (Nat.le_refl _); replace n2 := n2.below S.below (Nat.le_refl _); replace d2 := d2.below S.below (Nat.le_refl _)
      clear hr hlt hl hk hq1 hq2 hr1 hr2
      go_upto_region 8 with fail
      have H := S.hnew 29 [.bool b1, .slice p1 l1 K1, .int .i64 e1, .bool c1, .slice q1 j1 J1, .int .i64 f1]
      replace S := S.alloc 29 [.bool b1, .slice p1 l1 K1, .int .i64 e1, .bool c1, .slice q1 j1 J1, .int .i64 f1] (wr.heap.size)
      simp only [List.cons_append, List.nil_append] at S
      refine iv5 H hv n1 d1 n2 d2 ?_; clear hv n1 d1 n2 d2; intro hv n1 d1 n2 d2
      clear H a1_0 a1_1 a1_2 a1_3 a1_4 a1_5
      generalize (wr.alloc (.cells #[.bool b1, .slice p1 l1 K1, .int .i64 e1, .bool c1, .slice q1 j1 J1, .int .i64 f1] 29)) = w1 at S hv n1 d1 n2 d2 ⊢
      have H := Hold.drew w1
      refine iv5 H hv n1 d1 n2 d2 ?_; clear hv n1 d1 n2 d2; intro hv n1 d1 n2 d2
      clear H
      replace S := S.drew
      generalize hgx : wr.heap.size = gx at S ⊢
      clear hgx
      refine wp_region_held_drew (S := fun W => W.cell? ⟨r2, s2 + k * 6, none⟩ = some (.bool b2) ∧ W.cell? ⟨r2, s2 + k * 6 + 1, none⟩ = some (.slice p2 l2 K2) ∧ W.cell? ⟨r2, s2 + k * 6 + 2, none⟩ = some (.int .i64 e2) ∧ W.cell? ⟨r2, s2 + k * 6 + 3, none⟩ = some (.bool c2) ∧ W.cell? ⟨r2, s2 + k * 6 + 4, none⟩ = some (.slice q2 j2 J2) ∧ W.cell? ⟨r2, s2 + k * 6 + 5, none⟩ = some (.int .i64 f2) ∧ W.cell? ⟨gx, 0, none⟩ = some (.bool b1) ∧ W.cell? ⟨gx, 1, none⟩ = some (.slice p1 l1 K1) ∧ W.cell? ⟨gx, 2, none⟩ = some (.int .i64 e1) ∧ W.cell? ⟨gx, 3, none⟩ = some (.bool c1) ∧ W.cell? ⟨gx, 4, none⟩ = some (.slice q1 j1 J1) ∧ W.cell? ⟨gx, 5, none⟩ = some (.int .i64 f1)) (by kernel_rfl) ⟨(S.below.cell (p := ⟨r2, s2 + k * 6, none⟩) HC.out.1).trans HC.out.2.1, (S.below.cell (p := ⟨r2, s2 + k * 6 + 1, none⟩) HC.out.1).trans HC.out.2.2.1, (S.below.cell (p := ⟨r2, s2 + k * 6 + 2, none⟩) HC.out.1).trans HC.out.2.2.2.1, (S.below.cell (p := ⟨r2, s2 + k * 6 + 3, none⟩) HC.out.1).trans HC.out.2.2.2.2.1, (S.below.cell (p := ⟨r2, s2 + k * 6 + 4, none⟩) HC.out.1).trans HC.out.2.2.2.2.2.1, (S.below.cell (p := ⟨r2, s2 + k * 6 + 5, none⟩) HC.out.1).trans HC.out.2.2.2.2.2.2, S.c6 1 rfl⟩ (fun hS => ?_)
      generalize w1.drew = w2 at S hv n1 d1 n2 d2 hS ⊢
      refine tk 0 hS ?_
      refine tk 1 hS ?_
      refine tk 2 hS ?_
      refine tk 3 hS ?_
      refine tk 4 hS ?_
      refine tk 5 hS ?_
      refine tk 6 hS ?_
      refine tk 7 hS ?_
      refine rd 8 fun KK hKK => ?_
      go_simp; clear hS
      refine (S.call (HI.out.2.2.1 _ _ _ k z1 z2 S.below HQ.out.2.2.2.1 HQ.out.2.2.2.2.1 ⟨b1, p1, l1, K1, m1, e1, c1, q1, j1, J1, o1, f1, rfl, h1, n1, x1, g1, d1, y1⟩ ⟨b2, p2, l2, K2, m2, e2, c2, q2, j2, J2, o2, f2, rfl, h2, n2, x2, g2, d2, y2⟩)).mono ?_
      clear S
      rintro e w4 ⟨⟨_, rfl, b9, p9, l9, K9, m9, e9, c9, q9, j9, J9, o9, f9, rfl, h9, n9, x9, g9, d9, y9⟩, S, H⟩
      replace hv := hv.hold H; clear H n1 d1 n2 d2 h1 x1 g1 y1 h2 x2 g2 y2; go_wp2_with fail
      refine ho hKK ⟨(S.below.cell (p := ⟨r2, s2 + k * 6, none⟩) HC.out.1).trans HC.out.2.1, (S.below.cell (p := ⟨r2, s2 + k * 6 + 1, none⟩) HC.out.1).trans HC.out.2.2.1, (S.below.cell (p := ⟨r2, s2 + k * 6 + 2, none⟩) HC.out.1).trans HC.out.2.2.2.1, (S.below.cell (p := ⟨r2, s2 + k * 6 + 3, none⟩) HC.out.1).trans HC.out.2.2.2.2.1, (S.below.cell (p := ⟨r2, s2 + k * 6 + 4, none⟩) HC.out.1).trans HC.out.2.2.2.2.2.1, (S.below.cell (p := ⟨r2, s2 + k * 6 + 5, none⟩) HC.out.1).trans HC.out.2.2.2.2.2.2, S.c6 1 rfl⟩ fun hS => ?_
      clear hKK KK
      refine tk 9 hS ?_
      refine tk 10 hS ?_
      refine tk 11 hS ?_
      refine rd 12 fun KK hKK => ?_
      go_simp
      refine ho hKK hS fun hS => ?_
      clear hKK KK
      refine rd 13 fun KK hKK => ?_
      have f0_ := S.f 0 (k * 6) rfl
      have f1_ := S.f 0 (k * 6 + 1) rfl
      have f2_ := S.f 0 (k * 6 + 2) rfl
      have f3_ := S.f 0 (k * 6 + 3) rfl
      have f4_ := S.f 0 (k * 6 + 4) rfl
      have f5_ := S.f 0 (k * 6 + 5) rfl
      obtain ⟨S2, H⟩ := S.putAt6 0 (.bool b9) (.slice p9 l9 K9) (.int .i64 e9) (.bool c9) (.slice q9 j9 J9) (.int .i64 f9) rfl HQ.out.1
      have g0_ := S.c 0 (k * 6) rfl (v := .bool false) (by rw [← HQ.out.1]; simp [zr6])
      have g1_ := S.c 0 (k * 6 + 1) rfl (v := .slice none 0 0) (by rw [← HQ.out.1, List.getElem?_append_right (by omega)]; simp [zr6])
      have g2_ := S.c 0 (k * 6 + 2) rfl (v := .int .i64 0) (by rw [← HQ.out.1, List.getElem?_append_right (by omega)]; simp [zr6])
      have g3_ := S.c 0 (k * 6 + 3) rfl (v := .bool false) (by rw [← HQ.out.1, List.getElem?_append_right (by omega)]; simp [zr6])
      have g4_ := S.c 0 (k * 6 + 4) rfl (v := .slice none 0 0) (by rw [← HQ.out.1, List.getElem?_append_right (by omega)]; simp [zr6])
      have g5_ := S.c 0 (k * 6 + 5) rfl (v := .int .i64 0) (by rw [← HQ.out.1, List.getElem?_append_right (by omega)]; simp [zr6])
      clear hS; go_simp; clear S f0_ f1_ f2_ f3_ f4_ f5_ g0_ g1_ g2_ g3_ g4_ g5_
      replace S := S2
      clear S2
      simp only [List.set_cons_zero] at S
      refine ho hKK ⟨(S.below.cell (p := ⟨r2, s2 + k * 6, none⟩) HC.out.1).trans HC.out.2.1, (S.below.cell (p := ⟨r2, s2 + k * 6 + 1, none⟩) HC.out.1).trans HC.out.2.2.1, (S.below.cell (p := ⟨r2, s2 + k * 6 + 2, none⟩) HC.out.1).trans HC.out.2.2.2.1, (S.below.cell (p := ⟨r2, s2 + k * 6 + 3, none⟩) HC.out.1).trans HC.out.2.2.2.2.1, (S.below.cell (p := ⟨r2, s2 + k * 6 + 4, none⟩) HC.out.1).trans HC.out.2.2.2.2.2.1, (S.below.cell (p := ⟨r2, s2 + k * 6 + 5, none⟩) HC.out.1).trans HC.out.2.2.2.2.2.2, S.c6 1 rfl⟩ fun hS => ?_
      clear hKK KK
      refine rd 14 fun KK hKK => ?_
      go_simp
      refine ho hKK hS fun hS => ?_
      clear hKK KK
      refine wpAnyH_done (by kernel_rfl) ?_ _
      have hv2 := (hv.hold32 H).snoc (q := F z1 z2) ⟨b9, p9, l9, K9, m9, e9, c9, q9, j9, J9, o9, f9, rfl, h9, n9.hold32 H, x9, g9, d9.hold32 H, y9⟩
      clear hv H h9 x9 g9 y9 n9 d9 hS
      replace S := S.take 1 rfl
      go_wp2_with fail
      go_roundw
      case rel => exact ⟨k + 1, HQ.out.2.1, by go_num, _, by rw [zip_snocSSS HQ.out.2.2.2.1 HQ.out.2.2.2.2.1]; exact hv2, by rw [show n - (k + 1) = r by have := HQ.out.2.2.1; omega]; exact S⟩
      case measure => have := HQ.out.2.1; simp [intOf]; omega
    · have hki : ¬ (k : Int) < ((n : Nat) : Int) := by omega
      have hkn : k = n := by omega
      subst hkn
      rw [Nat.sub_self] at S
      rw [List.take_of_length_le (by rw [HI.out.2.2.2.1]; omega)] at hv
      simp only [zr6, List.append_nil] at S
      clear hlt hk; go_wp2_with fail
      exact bodyPost_ret (v := .tuple #[.slice (some ⟨w.heap.size, 0, none⟩) k k, .int .i64 0]) (by simp [results, Tryz.f97, go_sem]) rfl (⟨⟨_, rfl, _, vs, by rw [HI.out.2.2.2.1], Nat.le_refl _, (S.locs.get 0 rfl).2, hv⟩, S.below⟩)
theorem map_snocSS {F : Rat × Rat → Rat × Rat} {xs : List (Rat × Rat)} {k : Nat} {x : Rat × Rat} (h : xs[k]? = some x) : (xs.map F).take (k + 1) = (xs.map F).take k ++ [F x] := by
  rw [List.take_add_one, List.getElem?_map, h]
  rfl
set_option maxRecDepth 100000 in
set_option maxHeartbeats 4000000 in
theorem vplSS_any {va : Value} {xs : List (Rat × Rat)} {w : World} {La Ha : Nat} {Lr Hr : Nat} (ha : Spans w va xs La Ha) (n : Nat) (hla : xs.length = n) (hn : n ≤ 1000000) (fid : FuncId) (cp1 cp2 : Value) (F : Rat × Rat → Rat × Rat)
    (hcf : ∀ (u : Value) (W : World), Sem.run Tryz.prog (callFunc fid #[u, cp1, cp2]) W = .ok (.enter fid #[u, cp1, cp2]) W)
    (hf : ∀ (W : World) (u : Value) (k : Nat) (x : Rat × Rat), Below w.heap.size w W → xs[k]? = some x → IsSp W u x.1 x.2 La Ha → Calls Tryz.prog fid #[u, cp1, cp2] W fun e w' => (∃ r, e = .returned (.tuple #[r, .int .i64 0]) ∧ IsSp w' r (F x).1 (F x).2 Lr Hr) ∧ Below W.heap.size W w') :
    Calls Tryz.prog 104 #[va, .func (.func fid) #[] #[cp1, cp2]] w fun e w' => (∃ v, e = .returned (.tuple #[v, .int .i64 0]) ∧ FreshS w w' v (xs.map F) Lr Hr) ∧ Below w.heap.size w w' := by
  have hz : (xs.map F).length = n := by simp [hla]
  obtain ⟨r1, s1, ca, rfl, hr1⟩ := ha.form
  have HG := Lib.hid hr1
  rw [hla] at ha ⊢
  have HI := Lib.hid (And.intro ha (And.intro hf (And.intro hz hn)))
  clear ha hf hz hr1
  have S := St.start w
  go_enter Tryz.func104, Tryz.ntmps104
  go_upto_region 2 with (at_make; refine make_spans S rfl _ _ rfl _ _ n rfl rfl ?hL ?hC ?hn (fun w3 S3 hB3 => ?_))
  case hL => rfl
  case hC => rfl
  case hn => omega
  simp only [List.nil_append] at S3
  replace S := S3
  clear S3 hB3; go_wp2_with fail
  go_loopw [15] (fun si wr => ∃ k : Nat, k ≤ n ∧ si = .int .i64 k ∧ ∃ vs, SL wr Lr Hr vs ((xs.map F).take k) ∧ St w wr [(w.heap.size, 29, vs ++ zr6 (n - k))]) (fun si _ => n - (intOf si).toNat)
  case atStart => exact ⟨0, by omega, rfl, [], trivial, S⟩
  case round =>
    clear S
    obtain ⟨k, hk, rfl, vs, hv, S⟩ := hrel
    by_cases hlt : k < n
    · obtain ⟨r, hr⟩ : ∃ r, n - k = r + 1 := ⟨n - k - 1, by omega⟩
      rw [hr] at S
      have hl : vs.length = k * 6 := by rw [hv.len, List.length_take, HI.out.2.2.1]; omega
      obtain ⟨z1, b1, p1, l1, K1, m1, e1, c1, q1, j1, J1, o1, f1, hq1, a1_0, a1_1, a1_2, a1_3, a1_4, a1_5, h1, n1, x1, g1, d1, y1⟩ := HI.out.1.get hlt
      have hr1 := HG.out
      replace a1_0 := (S.below.cell (p := ⟨r1, s1 + k * 6, none⟩) hr1).trans a1_0
      replace a1_1 := (S.below.cell (p := ⟨r1, s1 + k * 6 + 1, none⟩) hr1).trans a1_1
      replace a1_2 := (S.below.cell (p := ⟨r1, s1 + k * 6 + 2, none⟩) hr1).trans a1_2
      replace a1_3 := (S.below.cell (p := ⟨r1, s1 + k * 6 + 3, none⟩) hr1).trans a1_3
      replace a1_4 := (S.below.cell (p := ⟨r1, s1 + k * 6 + 4, none⟩) hr1).trans a1_4
      replace a1_5 := (S.below.cell (p := ⟨r1, s1 + k * 6 + 5, none⟩) hr1).trans a1_5
      have HQ := Lib.hid (And.intro hl (And.intro hlt (And.intro hr hq1)))
      have hki : (k : Int) < ((n : Nat) : Int) := by omega
      replace n1 := n1.below S.below (Nat.le_refl _); replace d1 := d1.below S.below (Nat.le_refl _)
      clear hr hlt hl hk hq1 hr1
      go_upto_region 6 with fail
      have H := S.hnew 29 [.bool b1, .slice p1 l1 K1, .int .i64 e1, .bool c1, .slice q1 j1 J1, .int .i64 f1]
      replace S := S.alloc 29 [.bool b1, .slice p1 l1 K1, .int .i64 e1, .bool c1, .slice q1 j1 J1, .int .i64 f1] (wr.heap.size)
      simp only [List.cons_append, List.nil_append] at S
      refine iv3 H hv n1 d1 ?_; clear hv n1 d1; intro hv n1 d1
      clear H a1_0 a1_1 a1_2 a1_3 a1_4 a1_5; obtain ⟨c1_0, c1_1, c1_2, c1_3, c1_4, c1_5⟩ := S.c6 1 rfl
      generalize (wr.alloc (.cells #[.bool b1, .slice p1 l1 K1, .int .i64 e1, .bool c1, .slice q1 j1 J1, .int .i64 f1] 29)) = w1 at S hv n1 d1 c1_0 c1_1 c1_2 c1_3 c1_4 c1_5 ⊢
      go_wp2_with fail
      refine (S.call (HI.out.2.1 _ _ k z1 S.below HQ.out.2.2.2 ⟨b1, p1, l1, K1, m1, e1, c1, q1, j1, J1, o1, f1, rfl, h1, n1, x1, g1, d1, y1⟩)).mono ?_
      rintro e w4 ⟨⟨_, rfl, b9, p9, l9, K9, m9, e9, c9, q9, j9, J9, o9, f9, rfl, h9, n9, x9, g9, d9, y9⟩, S', H⟩
      replace hv := hv.hold H; clear S H n1 d1 h1 x1 g1 y1 c1_0 c1_1 c1_2 c1_3 c1_4 c1_5
      have f0_ := S'.f 0 (k * 6) rfl
      have f1_ := S'.f 0 (k * 6 + 1) rfl
      have f2_ := S'.f 0 (k * 6 + 2) rfl
      have f3_ := S'.f 0 (k * 6 + 3) rfl
      have f4_ := S'.f 0 (k * 6 + 4) rfl
      have f5_ := S'.f 0 (k * 6 + 5) rfl
      obtain ⟨S, H⟩ := S'.putAt6 0 (.bool b9) (.slice p9 l9 K9) (.int .i64 e9) (.bool c9) (.slice q9 j9 J9) (.int .i64 f9) rfl HQ.out.1
      have g0_ := S'.c 0 (k * 6) rfl (v := .bool false) (by rw [← HQ.out.1]; simp [zr6])
      have g1_ := S'.c 0 (k * 6 + 1) rfl (v := .slice none 0 0) (by rw [← HQ.out.1, List.getElem?_append_right (by omega)]; simp [zr6])
      have g2_ := S'.c 0 (k * 6 + 2) rfl (v := .int .i64 0) (by rw [← HQ.out.1, List.getElem?_append_right (by omega)]; simp [zr6])
      have g3_ := S'.c 0 (k * 6 + 3) rfl (v := .bool false) (by rw [← HQ.out.1, List.getElem?_append_right (by omega)]; simp [zr6])
      have g4_ := S'.c 0 (k * 6 + 4) rfl (v := .slice none 0 0) (by rw [← HQ.out.1, List.getElem?_append_right (by omega)]; simp [zr6])
      have g5_ := S'.c 0 (k * 6 + 5) rfl (v := .int .i64 0) (by rw [← HQ.out.1, List.getElem?_append_right (by omega)]; simp [zr6])
      clear S'
      go_upto_region 7 with fail
      have hv2 := (hv.hold32 H).snoc (q := F z1) ⟨b9, p9, l9, K9, m9, e9, c9, q9, j9, J9, o9, f9, rfl, h9, n9.hold32 H, x9, g9, d9.hold32 H, y9⟩
      clear hv H h9 x9 g9 y9 n9 d9 g0_ g1_ g2_ g3_ g4_ g5_ f0_ f1_ f2_ f3_ f4_ f5_
      replace S := S.take 1 rfl
      go_wp2_with fail
      go_roundw
      case rel => exact ⟨k + 1, HQ.out.2.1, by go_num, _, by rw [map_snocSS HQ.out.2.2.2]; exact hv2, by rw [show n - (k + 1) = r by have := HQ.out.2.2.1; omega]; exact S⟩
      case measure => have := HQ.out.2.1; simp [intOf]; omega
    · have hki : ¬ (k : Int) < ((n : Nat) : Int) := by omega
      have hkn : k = n := by omega
      subst hkn
      rw [Nat.sub_self] at S
      rw [List.take_of_length_le (by rw [HI.out.2.2.1]; omega)] at hv
      simp only [zr6, List.append_nil] at S
      clear hlt hk; go_wp2_with fail
      exact bodyPost_ret (v := .tuple #[.slice (some ⟨w.heap.size, 0, none⟩) k k, .int .i64 0]) (by simp [results, Tryz.f104, go_sem]) rfl (⟨⟨_, rfl, _, vs, by rw [HI.out.2.2.1], Nat.le_refl _, (S.locs.get 0 rfl).2, hv⟩, S.below⟩)
theorem zf_small {n e : Int} (hn0 : -9223372036854775808 ≤ n) (hn1 : n ≤ 9223372036854775807) (he0 : -100 ≤ e) (he1 : e ≤ 100) : ZF n e 100 164 :=
  ZF.of (n := 64) (by rw [PB_is, show (2 : Nat) ^ 64 = 18446744073709551616 by decide]; omega) he0 (by omega)
set_option maxRecDepth 100000 in
set_option maxHeartbeats 4000000 in
theorem dof_any (n e : Int) (w : World) (hT : Tab w) (hn0 : -9223372036854775808 ≤ n) (hn1 : n ≤ 9223372036854775807) (he0 : -100 ≤ e) (he1 : e ≤ 100) (x : Rat) (hx : dq n e = x) :
    Calls Tryz.prog 56 #[.int .i64 n, .int .i64 e] w fun ev w' => (∃ u, ev = .returned u ∧ IsD w' u x 100 164) ∧ Below w.heap.size w w' := by
  have hmax : max e (-100) = e := by omega
  have hmin : min e 100 = e := by omega
  have HD := Lib.hid (And.intro hT (And.intro (zf_small hn0 hn1 he0 he1) (And.intro hx (And.intro hn0 hn1))))
  clear hT hx hn0 hn1 he0 he1
  have S := (St.start w).alloc 27 [.bool false, .slice none 0 0, .int .i64 0] (w.heap.size)
  try simp only [List.nil_append] at S
  obtain ⟨c0_0, c0_1, c0_2⟩ := S.c3 0 rfl
  go_enter Tryz.func56, Tryz.ntmps56
  go_wp2_with fail; clear c0_0 c0_1 c0_2
  refine (S.call (wof_any n _ HD.out.2.2.2.1 HD.out.2.2.2.2)).mono ?_
  clear S
  rintro e w1 ⟨⟨_, rfl, p, l, K, rfl, nn⟩, S, H⟩
  clear H; obtain ⟨c0_0, c0_1, c0_2⟩ := S.c3 0 rfl; go_wp2_with fail; clear c0_0 c0_1 c0_2
  refine (S.call (dmake_any (HD.out.1.below S.below) ⟨_, _, _, rfl, nn⟩ HD.out.2.1 (by decide) x HD.out.2.2.1)).mono ?_
  clear S
  rintro e w2 ⟨⟨_, rfl, b3, p3, l3, K3, m3, e3, rfl, h3, n3, d3⟩, S, H⟩
  replace nn := nn.hold H; clear H; obtain ⟨c0_0, c0_1, c0_2⟩ := S.c3 0 rfl
  have H := S.hnew 27 [.bool b3, .slice p3 l3 K3, .int .i64 e3]
  replace S := S.al 27 [.bool b3, .slice p3 l3 K3, .int .i64 e3] (w2.heap.size)
  replace nn := nn.hold H; replace n3 := n3.hold H
  clear H; clear c0_0 c0_1 c0_2; obtain ⟨c0_0, c0_1, c0_2⟩ := S.c3 0 rfl; obtain ⟨c1_0, c1_1, c1_2⟩ := S.c3 1 rfl
  obtain ⟨f0_0, f0_1, f0_2⟩ := S.f3 0 rfl
  have HP := S.put3 0 (.bool b3) (.slice p3 l3 K3) (.int .i64 e3) rfl rfl; have H := HP.2; replace S := HP.1; clear HP
  replace nn := nn.hold32 H; replace n3 := n3.hold32 H
  clear H; go_wp2_with fail; obtain ⟨d0_0, d0_1, d0_2⟩ := S.c3 0 rfl
  exact bodyPost_ret (v := .agg #[.bool b3, .slice p3 l3 K3, .int .i64 e3]) (by simp [results, Tryz.f56, go_sem, d0_0, d0_1, d0_2]) rfl (⟨⟨_, rfl, b3, p3, l3, K3, m3, e3, rfl, h3, n3, d3⟩, S.below⟩)
set_option maxRecDepth 100000 in
set_option maxHeartbeats 2000000 in
theorem sends_any (b1 b2 : Bool) (p1 p2 : Option Addr) (l1 K1 l2 K2 : Nat) (e1 e2 : Int) (w : World) :
    Calls Tryz.prog 70 #[.agg #[.bool b1, .slice p1 l1 K1, .int .i64 e1, .bool b2, .slice p2 l2 K2, .int .i64 e2]] w fun e w' => e = .returned (.agg #[.bool b1, .slice p1 l1 K1, .int .i64 e1, .bool b2, .slice p2 l2 K2, .int .i64 e2]) ∧ Below w.heap.size w w' := by
  have S := ((St.start w).alloc 29 [.bool b1, .slice p1 l1 K1, .int .i64 e1, .bool b2, .slice p2 l2 K2, .int .i64 e2] (w.heap.size)).alloc 104 [.bool false, .slice none 0 0, .int .i64 0, .bool false, .slice none 0 0, .int .i64 0] (w.heap.size + 1)
  try simp only [List.cons_append, List.nil_append] at S
  obtain ⟨c0_0, c0_1, c0_2, c0_3, c0_4, c0_5⟩ := S.c6 0 rfl; obtain ⟨c1_0, c1_1, c1_2, c1_3, c1_4, c1_5⟩ := S.c6 1 rfl
  go_enter Tryz.func70, Tryz.ntmps70
  go_upto_region 1 with fail
  clear c0_0 c0_1 c0_2 c0_3 c0_4 c0_5 c1_0 c1_1 c1_2 c1_3 c1_4 c1_5
  generalize ((w.alloc (.cells #[.bool b1, .slice p1 l1 K1, .int .i64 e1, .bool b2, .slice p2 l2 K2, .int .i64 e2] 29)).alloc (.cells #[.bool false, .slice none 0 0, .int .i64 0, .bool false, .slice none 0 0, .int .i64 0] 104)) = w1 at S  ⊢
  obtain ⟨c0_0, c0_1, c0_2, c0_3, c0_4, c0_5⟩ := S.c6 0 rfl; obtain ⟨c1_0, c1_1, c1_2, c1_3, c1_4, c1_5⟩ := S.c6 1 rfl
  obtain ⟨f1_0, f1_1, f1_2, f1_3, f1_4, f1_5⟩ := S.f6 1 rfl
  have HP := S.put6 1 (.bool b1) (.slice p1 l1 K1) (.int .i64 e1) (.bool b2) (.slice p2 l2 K2) (.int .i64 e2) rfl rfl; have H := HP.2; replace S := HP.1; clear HP
  clear H; go_wp2_with fail; obtain ⟨d1_0, d1_1, d1_2, d1_3, d1_4, d1_5⟩ := S.c6 1 rfl
  exact bodyPost_ret (v := .agg #[.bool b1, .slice p1 l1 K1, .int .i64 e1, .bool b2, .slice p2 l2 K2, .int .i64 e2]) (by simp [results, Tryz.f70, go_sem, d1_0, d1_1, d1_2, d1_3, d1_4, d1_5]) rfl (⟨rfl, S.below⟩)
set_option maxRecDepth 100000 in
set_option maxHeartbeats 8000000 in
theorem smul_gen {va vb : Value} {x y u v : Rat} {w : World} {L H M I : Nat} (hT : Tab w) (ha : IsSp w va x y L H) (hb : IsSp w vb u v M I) (hk : H + I + 1 + (L + M) ≤ 16384) (n : Nat) (hn2 : 2 ≤ n) (hn4 : n ≤ 4096) (lo hi : Rat) (hlo : min2 (min2 (min2 (x * u) (x * v)) (y * u)) (y * v) = lo) (hhi : max2 (max2 (max2 (x * u) (x * v)) (y * u)) (y * v) = hi) :
    Calls Tryz.prog 16 #[va, vb, .int .i64 n] w fun e w' => (∃ z, e = .returned (.tuple #[z, .int .i64 0]) ∧ IsSp w' z (rq lo n false) (rq hi n true) (L + M) (H + I + 1)) ∧ Below w.heap.size w w' := by
  obtain ⟨b1, p1, l1, K1, m1, e1, b2, p2, l2, K2, m2, e2, rfl, h1, n1, d1, h2, n2, d2⟩ := ha
  obtain ⟨b3, p3, l3, K3, m3, e3, b4, p4, l4, K4, m4, e4, rfl, h3, n3, d3, h4, n4, d4⟩ := hb
  have HK := Lib.hid (And.intro (show H + I + (L + M) ≤ 16384 by omega) (And.intro hn2 (And.intro hn4 (And.intro hT hk))))
  subst hlo hhi
  clear hk hn2 hn4 hT
  have i0 : ∀ W : World, (Instr.index 104 (.agg #[.bool b1, .slice p1 l1 K1, .int .i64 e1, .bool b2, .slice p2 l2 K2, .int .i64 e2]) (.int .i64 0)).run Tryz.prog W = .ok (.agg #[.bool b1, .slice p1 l1 K1, .int .i64 e1]) W := fun _ => by kernel_rfl
  have i1 : ∀ W : World, (Instr.index 104 (.agg #[.bool b1, .slice p1 l1 K1, .int .i64 e1, .bool b2, .slice p2 l2 K2, .int .i64 e2]) (.int .i64 1)).run Tryz.prog W = .ok (.agg #[.bool b2, .slice p2 l2 K2, .int .i64 e2]) W := fun _ => by kernel_rfl
  have j0 : ∀ W : World, (Instr.index 104 (.agg #[.bool b3, .slice p3 l3 K3, .int .i64 e3, .bool b4, .slice p4 l4 K4, .int .i64 e4]) (.int .i64 0)).run Tryz.prog W = .ok (.agg #[.bool b3, .slice p3 l3 K3, .int .i64 e3]) W := fun _ => by kernel_rfl
  have j1 : ∀ W : World, (Instr.index 104 (.agg #[.bool b3, .slice p3 l3 K3, .int .i64 e3, .bool b4, .slice p4 l4 K4, .int .i64 e4]) (.int .i64 1)).run Tryz.prog W = .ok (.agg #[.bool b4, .slice p4 l4 K4, .int .i64 e4]) W := fun _ => by kernel_rfl
  have S := (((St.start w).alloc 29 [.bool b1, .slice p1 l1 K1, .int .i64 e1, .bool b2, .slice p2 l2 K2, .int .i64 e2] (w.heap.size)).alloc 29 [.bool b3, .slice p3 l3 K3, .int .i64 e3, .bool b4, .slice p4 l4 K4, .int .i64 e4] (w.heap.size + 1)).alloc 29 [.bool false, .slice none 0 0, .int .i64 0, .bool false, .slice none 0 0, .int .i64 0] (w.heap.size + 1 + 1)
  try simp only [List.cons_append, List.nil_append] at S
  refine iv4 S.hold n1 n2 n3 n4 ?_; clear n1 n2 n3 n4; intro n1 n2 n3 n4
  obtain ⟨c0_0, c0_1, c0_2, c0_3, c0_4, c0_5⟩ := S.c6 0 rfl; obtain ⟨c1_0, c1_1, c1_2, c1_3, c1_4, c1_5⟩ := S.c6 1 rfl; obtain ⟨c2_0, c2_1, c2_2, c2_3, c2_4, c2_5⟩ := S.c6 2 rfl
  go_enter Tryz.func16, Tryz.ntmps16
  have H := S.hnew 103 [.bool false, .slice none 0 0, .int .i64 0, .bool false, .slice none 0 0, .int .i64 0, .bool false, .slice none 0 0, .int .i64 0, .bool false, .slice none 0 0, .int .i64 0]
  replace S := S.al 103 [.bool false, .slice none 0 0, .int .i64 0, .bool false, .slice none 0 0, .int .i64 0, .bool false, .slice none 0 0, .int .i64 0, .bool false, .slice none 0 0, .int .i64 0] (w.heap.size + 1 + 1 + 1)
  refine iv4 H n1 n2 n3 n4 ?_; clear n1 n2 n3 n4; intro n1 n2 n3 n4
  clear H; clear c0_0 c0_1 c0_2 c0_3 c0_4 c0_5 c1_0 c1_1 c1_2 c1_3 c1_4 c1_5 c2_0 c2_1 c2_2 c2_3 c2_4 c2_5; obtain ⟨c0_0, c0_1, c0_2, c0_3, c0_4, c0_5⟩ := S.c6 0 rfl; obtain ⟨c1_0, c1_1, c1_2, c1_3, c1_4, c1_5⟩ := S.c6 1 rfl; obtain ⟨c2_0, c2_1, c2_2, c2_3, c2_4, c2_5⟩ := S.c6 2 rfl; obtain ⟨c3_0, c3_1, c3_2, c3_3, c3_4, c3_5⟩ := S.c6 3 rfl; have c3_6 := S.c 3 6 rfl rfl; have c3_7 := S.c 3 7 rfl rfl; have c3_8 := S.c 3 8 rfl rfl; have c3_9 := S.c 3 9 rfl rfl; have c3_10 := S.c 3 10 rfl rfl; have c3_11 := S.c 3 11 rfl rfl; go_wp2_with fail; clear c0_0 c0_1 c0_2 c0_3 c0_4 c0_5 c1_0 c1_1 c1_2 c1_3 c1_4 c1_5 c2_0 c2_1 c2_2 c2_3 c2_4 c2_5 c3_0 c3_1 c3_2 c3_3 c3_4 c3_5 c3_6 c3_7 c3_8 c3_9 c3_10 c3_11
  refine (S.call (sends_any b1 b2 p1 p2 l1 K1 l2 K2 e1 e2 _)).mono ?_
  clear S
  rintro e w1 ⟨rfl, S, H⟩
  refine iv4 H n1 n2 n3 n4 ?_; clear n1 n2 n3 n4; intro n1 n2 n3 n4
  clear H; obtain ⟨c0_0, c0_1, c0_2, c0_3, c0_4, c0_5⟩ := S.c6 0 rfl; obtain ⟨c1_0, c1_1, c1_2, c1_3, c1_4, c1_5⟩ := S.c6 1 rfl; obtain ⟨c2_0, c2_1, c2_2, c2_3, c2_4, c2_5⟩ := S.c6 2 rfl; obtain ⟨c3_0, c3_1, c3_2, c3_3, c3_4, c3_5⟩ := S.c6 3 rfl; have c3_6 := S.c 3 6 rfl rfl; have c3_7 := S.c 3 7 rfl rfl; have c3_8 := S.c 3 8 rfl rfl; have c3_9 := S.c 3 9 rfl rfl; have c3_10 := S.c 3 10 rfl rfl; have c3_11 := S.c 3 11 rfl rfl; go_wp2_with fail; clear c0_0 c0_1 c0_2 c0_3 c0_4 c0_5 c1_0 c1_1 c1_2 c1_3 c1_4 c1_5 c2_0 c2_1 c2_2 c2_3 c2_4 c2_5 c3_0 c3_1 c3_2 c3_3 c3_4 c3_5 c3_6 c3_7 c3_8 c3_9 c3_10 c3_11
  go_loopw [20] (fun si wr => (si = .int .i64 0 ∧ IsNat wr (.slice p1 l1 K1) m1.natAbs ∧ IsNat wr (.slice p2 l2 K2) m2.natAbs ∧ IsNat wr (.slice p3 l3 K3) m3.natAbs ∧ IsNat wr (.slice p4 l4 K4) m4.natAbs ∧ St w wr [(w.heap.size, 29, [.bool b1, .slice p1 l1 K1, .int .i64 e1, .bool b2, .slice p2 l2 K2, .int .i64 e2]), (w.heap.size + 1, 29, [.bool b3, .slice p3 l3 K3, .int .i64 e3, .bool b4, .slice p4 l4 K4, .int .i64 e4]), (w.heap.size + 1 + 1, 29, [.bool false, .slice none 0 0, .int .i64 0, .bool false, .slice none 0 0, .int .i64 0]), (w.heap.size + 1 + 1 + 1, 103, [.bool false, .slice none 0 0, .int .i64 0, .bool false, .slice none 0 0, .int .i64 0, .bool false, .slice none 0 0, .int .i64 0, .bool false, .slice none 0 0, .int .i64 0])]) ∨ (si = .int .i64 1 ∧ IsNat wr (.slice p1 l1 K1) m1.natAbs ∧ IsNat wr (.slice p2 l2 K2) m2.natAbs ∧ IsNat wr (.slice p3 l3 K3) m3.natAbs ∧ IsNat wr (.slice p4 l4 K4) m4.natAbs ∧ ∃ b5 p5 l5 K5 m5 e5 b6 p6 l6 K6 m6 e6, Hid (negB m5 = b5) ∧ IsNat wr (.slice p5 l5 K5) m5.natAbs ∧ Hid (DyF m5 e5 (x * u) (L + M) (H + I)) ∧ Hid (negB m6 = b6) ∧ IsNat wr (.slice p6 l6 K6) m6.natAbs ∧ Hid (DyF m6 e6 (x * v) (L + M) (H + I)) ∧ St w wr [(w.heap.size, 29, [.bool b1, .slice p1 l1 K1, .int .i64 e1, .bool b2, .slice p2 l2 K2, .int .i64 e2]), (w.heap.size + 1, 29, [.bool b3, .slice p3 l3 K3, .int .i64 e3, .bool b4, .slice p4 l4 K4, .int .i64 e4]), (w.heap.size + 1 + 1, 29, [.bool false, .slice none 0 0, .int .i64 0, .bool false, .slice none 0 0, .int .i64 0]), (w.heap.size + 1 + 1 + 1, 103, [.bool b5, .slice p5 l5 K5, .int .i64 e5, .bool b6, .slice p6 l6 K6, .int .i64 e6, .bool false, .slice none 0 0, .int .i64 0, .bool false, .slice none 0 0, .int .i64 0])]) ∨ (si = .int .i64 2 ∧ IsNat wr (.slice p1 l1 K1) m1.natAbs ∧ IsNat wr (.slice p2 l2 K2) m2.natAbs ∧ IsNat wr (.slice p3 l3 K3) m3.natAbs ∧ IsNat wr (.slice p4 l4 K4) m4.natAbs ∧ ∃ b5 p5 l5 K5 m5 e5 b6 p6 l6 K6 m6 e6 b7 p7 l7 K7 m7 e7 b8 p8 l8 K8 m8 e8, Hid (negB m5 = b5) ∧ IsNat wr (.slice p5 l5 K5) m5.natAbs ∧ Hid (DyF m5 e5 (x * u) (L + M) (H + I)) ∧ Hid (negB m6 = b6) ∧ IsNat wr (.slice p6 l6 K6) m6.natAbs ∧ Hid (DyF m6 e6 (x * v) (L + M) (H + I)) ∧ Hid (negB m7 = b7) ∧ IsNat wr (.slice p7 l7 K7) m7.natAbs ∧ Hid (DyF m7 e7 (y * u) (L + M) (H + I)) ∧ Hid (negB m8 = b8) ∧ IsNat wr (.slice p8 l8 K8) m8.natAbs ∧ Hid (DyF m8 e8 (y * v) (L + M) (H + I)) ∧ St w wr [(w.heap.size, 29, [.bool b1, .slice p1 l1 K1, .int .i64 e1, .bool b2, .slice p2 l2 K2, .int .i64 e2]), (w.heap.size + 1, 29, [.bool b3, .slice p3 l3 K3, .int .i64 e3, .bool b4, .slice p4 l4 K4, .int .i64 e4]), (w.heap.size + 1 + 1, 29, [.bool false, .slice none 0 0, .int .i64 0, .bool false, .slice none 0 0, .int .i64 0]), (w.heap.size + 1 + 1 + 1, 103, [.bool b5, .slice p5 l5 K5, .int .i64 e5, .bool b6, .slice p6 l6 K6, .int .i64 e6, .bool b7, .slice p7 l7 K7, .int .i64 e7, .bool b8, .slice p8 l8 K8, .int .i64 e8])])) (fun si _ => 2 - (intOf si).toNat)
  case atStart => exact .inl ⟨rfl, n1, n2, n3, n4, S⟩
  case round =>
    clear n1 n2 n3 n4 S
    rcases hrel with ⟨rfl, n1, n2, n3, n4, S⟩ | ⟨rfl, n1, n2, n3, n4, b5, p5, l5, K5, m5, e5, b6, p6, l6, K6, m6, e6, h5, n5, d5, h6, n6, d6, S⟩ | ⟨rfl, n1, n2, n3, n4, b5, p5, l5, K5, m5, e5, b6, p6, l6, K6, m6, e6, b7, p7, l7, K7, m7, e7, b8, p8, l8, K8, m8, e8, h5, n5, d5, h6, n6, d6, h7, n7, d7, h8, n8, d8, S⟩
    ·
      have H := S.hnew 27 [.bool b1, .slice p1 l1 K1, .int .i64 e1]
      replace S := S.al 27 [.bool b1, .slice p1 l1 K1, .int .i64 e1] (wr.heap.size)
      refine iv4 H n1 n2 n3 n4 ?_; clear n1 n2 n3 n4; intro n1 n2 n3 n4
      clear H; obtain ⟨c0_0, c0_1, c0_2, c0_3, c0_4, c0_5⟩ := S.c6 0 rfl; obtain ⟨c1_0, c1_1, c1_2, c1_3, c1_4, c1_5⟩ := S.c6 1 rfl; obtain ⟨c2_0, c2_1, c2_2, c2_3, c2_4, c2_5⟩ := S.c6 2 rfl; obtain ⟨c3_0, c3_1, c3_2, c3_3, c3_4, c3_5⟩ := S.c6 3 rfl; have c3_6 := S.c 3 6 rfl rfl; have c3_7 := S.c 3 7 rfl rfl; have c3_8 := S.c 3 8 rfl rfl; have c3_9 := S.c 3 9 rfl rfl; have c3_10 := S.c 3 10 rfl rfl; have c3_11 := S.c 3 11 rfl rfl; obtain ⟨c4_0, c4_1, c4_2⟩ := S.c3 4 rfl; go_wp2_with fail; clear c0_0 c0_1 c0_2 c0_3 c0_4 c0_5 c1_0 c1_1 c1_2 c1_3 c1_4 c1_5 c2_0 c2_1 c2_2 c2_3 c2_4 c2_5 c3_0 c3_1 c3_2 c3_3 c3_4 c3_5 c3_6 c3_7 c3_8 c3_9 c3_10 c3_11 c4_0 c4_1 c4_2
      refine (S.call (sends_any b3 b4 p3 p4 l3 K3 l4 K4 e3 e4 _)).mono ?_
      clear S
      rintro e w21 ⟨rfl, S, H⟩
      refine iv4 H n1 n2 n3 n4 ?_; clear n1 n2 n3 n4; intro n1 n2 n3 n4
      clear H; obtain ⟨c0_0, c0_1, c0_2, c0_3, c0_4, c0_5⟩ := S.c6 0 rfl; obtain ⟨c1_0, c1_1, c1_2, c1_3, c1_4, c1_5⟩ := S.c6 1 rfl; obtain ⟨c2_0, c2_1, c2_2, c2_3, c2_4, c2_5⟩ := S.c6 2 rfl; obtain ⟨c3_0, c3_1, c3_2, c3_3, c3_4, c3_5⟩ := S.c6 3 rfl; have c3_6 := S.c 3 6 rfl rfl; have c3_7 := S.c 3 7 rfl rfl; have c3_8 := S.c 3 8 rfl rfl; have c3_9 := S.c 3 9 rfl rfl; have c3_10 := S.c 3 10 rfl rfl; have c3_11 := S.c 3 11 rfl rfl; obtain ⟨c4_0, c4_1, c4_2⟩ := S.c3 4 rfl; go_wp2_with fail; clear c0_0 c0_1 c0_2 c0_3 c0_4 c0_5 c1_0 c1_1 c1_2 c1_3 c1_4 c1_5 c2_0 c2_1 c2_2 c2_3 c2_4 c2_5 c3_0 c3_1 c3_2 c3_3 c3_4 c3_5 c3_6 c3_7 c3_8 c3_9 c3_10 c3_11 c4_0 c4_1 c4_2
      obtain ⟨g10, hg10⟩ : ∃ g, wr.heap.size = g := ⟨_, rfl⟩
      rw [hg10] at S ⊢
      clear hg10
      go_loopw [26] (fun si wr => (si = .int .i64 0 ∧ IsNat wr (.slice p1 l1 K1) m1.natAbs ∧ IsNat wr (.slice p2 l2 K2) m2.natAbs ∧ IsNat wr (.slice p3 l3 K3) m3.natAbs ∧ IsNat wr (.slice p4 l4 K4) m4.natAbs ∧ St w wr [(w.heap.size, 29, [.bool b1, .slice p1 l1 K1, .int .i64 e1, .bool b2, .slice p2 l2 K2, .int .i64 e2]), (w.heap.size + 1, 29, [.bool b3, .slice p3 l3 K3, .int .i64 e3, .bool b4, .slice p4 l4 K4, .int .i64 e4]), (w.heap.size + 1 + 1, 29, [.bool false, .slice none 0 0, .int .i64 0, .bool false, .slice none 0 0, .int .i64 0]), (w.heap.size + 1 + 1 + 1, 103, [.bool false, .slice none 0 0, .int .i64 0, .bool false, .slice none 0 0, .int .i64 0, .bool false, .slice none 0 0, .int .i64 0, .bool false, .slice none 0 0, .int .i64 0]), (g10, 27, [.bool b1, .slice p1 l1 K1, .int .i64 e1])]) ∨ (si = .int .i64 1 ∧ IsNat wr (.slice p1 l1 K1) m1.natAbs ∧ IsNat wr (.slice p2 l2 K2) m2.natAbs ∧ IsNat wr (.slice p3 l3 K3) m3.natAbs ∧ IsNat wr (.slice p4 l4 K4) m4.natAbs ∧ ∃ b5 p5 l5 K5 m5 e5, Hid (negB m5 = b5) ∧ IsNat wr (.slice p5 l5 K5) m5.natAbs ∧ Hid (DyF m5 e5 (x * u) (L + M) (H + I)) ∧ St w wr [(w.heap.size, 29, [.bool b1, .slice p1 l1 K1, .int .i64 e1, .bool b2, .slice p2 l2 K2, .int .i64 e2]), (w.heap.size + 1, 29, [.bool b3, .slice p3 l3 K3, .int .i64 e3, .bool b4, .slice p4 l4 K4, .int .i64 e4]), (w.heap.size + 1 + 1, 29, [.bool false, .slice none 0 0, .int .i64 0, .bool false, .slice none 0 0, .int .i64 0]), (w.heap.size + 1 + 1 + 1, 103, [.bool b5, .slice p5 l5 K5, .int .i64 e5, .bool false, .slice none 0 0, .int .i64 0, .bool false, .slice none 0 0, .int .i64 0, .bool false, .slice none 0 0, .int .i64 0]), (g10, 27, [.bool b1, .slice p1 l1 K1, .int .i64 e1])]) ∨ (si = .int .i64 2 ∧ IsNat wr (.slice p1 l1 K1) m1.natAbs ∧ IsNat wr (.slice p2 l2 K2) m2.natAbs ∧ IsNat wr (.slice p3 l3 K3) m3.natAbs ∧ IsNat wr (.slice p4 l4 K4) m4.natAbs ∧ ∃ b5 p5 l5 K5 m5 e5 b6 p6 l6 K6 m6 e6, Hid (negB m5 = b5) ∧ IsNat wr (.slice p5 l5 K5) m5.natAbs ∧ Hid (DyF m5 e5 (x * u) (L + M) (H + I)) ∧ Hid (negB m6 = b6) ∧ IsNat wr (.slice p6 l6 K6) m6.natAbs ∧ Hid (DyF m6 e6 (x * v) (L + M) (H + I)) ∧ St w wr [(w.heap.size, 29, [.bool b1, .slice p1 l1 K1, .int .i64 e1, .bool b2, .slice p2 l2 K2, .int .i64 e2]), (w.heap.size + 1, 29, [.bool b3, .slice p3 l3 K3, .int .i64 e3, .bool b4, .slice p4 l4 K4, .int .i64 e4]), (w.heap.size + 1 + 1, 29, [.bool false, .slice none 0 0, .int .i64 0, .bool false, .slice none 0 0, .int .i64 0]), (w.heap.size + 1 + 1 + 1, 103, [.bool b5, .slice p5 l5 K5, .int .i64 e5, .bool b6, .slice p6 l6 K6, .int .i64 e6, .bool false, .slice none 0 0, .int .i64 0, .bool false, .slice none 0 0, .int .i64 0]), (g10, 27, [.bool b1, .slice p1 l1 K1, .int .i64 e1])])) (fun si _ => 2 - (intOf si).toNat)
      case atStart => exact .inl ⟨rfl, n1, n2, n3, n4, S⟩
      case round =>
        clear n1 n2 n3 n4 S
        rcases hrel with ⟨rfl, n1, n2, n3, n4, S⟩ | ⟨rfl, n1, n2, n3, n4, b5, p5, l5, K5, m5, e5, h5, n5, d5, S⟩ | ⟨rfl, n1, n2, n3, n4, b5, p5, l5, K5, m5, e5, b6, p6, l6, K6, m6, e6, h5, n5, d5, h6, n6, d6, S⟩
        ·
          have H := S.hnew 27 [.bool b3, .slice p3 l3 K3, .int .i64 e3]
          replace S := S.al 27 [.bool b3, .slice p3 l3 K3, .int .i64 e3] (wr.heap.size)
          refine iv4 H n1 n2 n3 n4 ?_; clear n1 n2 n3 n4; intro n1 n2 n3 n4
          clear H; obtain ⟨c3_0, c3_1, c3_2, c3_3, c3_4, c3_5⟩ := S.c6 3 rfl; have c3_6 := S.c 3 6 rfl rfl; have c3_7 := S.c 3 7 rfl rfl; have c3_8 := S.c 3 8 rfl rfl; have c3_9 := S.c 3 9 rfl rfl; have c3_10 := S.c 3 10 rfl rfl; have c3_11 := S.c 3 11 rfl rfl; obtain ⟨c4_0, c4_1, c4_2⟩ := S.c3 4 rfl; obtain ⟨c5_0, c5_1, c5_2⟩ := S.c3 5 rfl; go_wp2_with fail; clear c3_0 c3_1 c3_2 c3_3 c3_4 c3_5 c3_6 c3_7 c3_8 c3_9 c3_10 c3_11 c4_0 c4_1 c4_2 c5_0 c5_1 c5_2
          refine (S.call (dmul_any (HK.out.2.2.2.1.below S.below) ⟨b1, p1, l1, K1, m1, e1, rfl, h1, n1, d1⟩ ⟨b3, p3, l3, K3, m3, e3, rfl, h3, n3, d3⟩ HK.out.1 (x * u) rfl)).mono ?_
          clear S
          rintro e w41 ⟨⟨_, rfl, b5, p5, l5, K5, m5, e5, rfl, h5, n5, d5⟩, S, H⟩
          refine iv4 H n1 n2 n3 n4 ?_; clear n1 n2 n3 n4; intro n1 n2 n3 n4
          clear H; obtain ⟨c3_0, c3_1, c3_2, c3_3, c3_4, c3_5⟩ := S.c6 3 rfl; have c3_6 := S.c 3 6 rfl rfl; have c3_7 := S.c 3 7 rfl rfl; have c3_8 := S.c 3 8 rfl rfl; have c3_9 := S.c 3 9 rfl rfl; have c3_10 := S.c 3 10 rfl rfl; have c3_11 := S.c 3 11 rfl rfl; obtain ⟨c4_0, c4_1, c4_2⟩ := S.c3 4 rfl; obtain ⟨c5_0, c5_1, c5_2⟩ := S.c3 5 rfl; clear c3_0 c3_1 c3_2 c3_3 c3_4 c3_5 c3_6 c3_7 c3_8 c3_9 c3_10 c3_11 c4_0 c4_1 c4_2 c5_0 c5_1 c5_2; obtain ⟨c3_0, c3_1, c3_2, c3_3, c3_4, c3_5⟩ := S.c6 3 rfl; have c3_6 := S.c 3 6 rfl rfl; have c3_7 := S.c 3 7 rfl rfl; have c3_8 := S.c 3 8 rfl rfl; have c3_9 := S.c 3 9 rfl rfl; have c3_10 := S.c 3 10 rfl rfl; have c3_11 := S.c 3 11 rfl rfl; have f3_0 := S.f 3 0 rfl
          have H := S.hset 3 0 (.bool b5) rfl rfl (by intro q n e; cases e)
          replace S := S.set 3 0 (.bool b5) rfl
          refine iv5 H n1 n2 n3 n4 n5 ?_; clear n1 n2 n3 n4 n5; intro n1 n2 n3 n4 n5
          clear H; have f3_1 := S.f 3 1 rfl
          have H := S.hset 3 1 (.slice p5 l5 K5) rfl rfl (by intro q n e; cases e)
          replace S := S.set 3 1 (.slice p5 l5 K5) rfl
          refine iv5 H n1 n2 n3 n4 n5 ?_; clear n1 n2 n3 n4 n5; intro n1 n2 n3 n4 n5
          clear H; have f3_2 := S.f 3 2 rfl
          have H := S.hset32 3 2 (.int .i64 e5) rfl rfl (by intro n e; cases e)
          replace S := S.set 3 2 (.int .i64 e5) rfl
          refine iw5 H n1 n2 n3 n4 n5 ?_; clear n1 n2 n3 n4 n5; intro n1 n2 n3 n4 n5; clear H; go_wp2_with fail
          replace S := S.take 5 (L := [(w.heap.size, 29, [.bool b1, .slice p1 l1 K1, .int .i64 e1, .bool b2, .slice p2 l2 K2, .int .i64 e2]), (w.heap.size + 1, 29, [.bool b3, .slice p3 l3 K3, .int .i64 e3, .bool b4, .slice p4 l4 K4, .int .i64 e4]), (w.heap.size + 1 + 1, 29, [.bool false, .slice none 0 0, .int .i64 0, .bool false, .slice none 0 0, .int .i64 0]), (w.heap.size + 1 + 1 + 1, 103, [.bool b5, .slice p5 l5 K5, .int .i64 e5, .bool false, .slice none 0 0, .int .i64 0, .bool false, .slice none 0 0, .int .i64 0, .bool false, .slice none 0 0, .int .i64 0]), (g10, 27, [.bool b1, .slice p1 l1 K1, .int .i64 e1])]) rfl
          go_roundw
          case rel => exact .inr (.inl ⟨rfl, n1, n2, n3, n4, b5, p5, l5, K5, m5, e5, h5, n5, d5, S⟩)
          case measure => simp [intOf]
        ·
          have H := S.hnew 27 [.bool b4, .slice p4 l4 K4, .int .i64 e4]
          replace S := S.al 27 [.bool b4, .slice p4 l4 K4, .int .i64 e4] (wr.heap.size)
          refine iv5 H n1 n2 n3 n4 n5 ?_; clear n1 n2 n3 n4 n5; intro n1 n2 n3 n4 n5
          clear H; obtain ⟨c3_0, c3_1, c3_2, c3_3, c3_4, c3_5⟩ := S.c6 3 rfl; have c3_6 := S.c 3 6 rfl rfl; have c3_7 := S.c 3 7 rfl rfl; have c3_8 := S.c 3 8 rfl rfl; have c3_9 := S.c 3 9 rfl rfl; have c3_10 := S.c 3 10 rfl rfl; have c3_11 := S.c 3 11 rfl rfl; obtain ⟨c4_0, c4_1, c4_2⟩ := S.c3 4 rfl; obtain ⟨c5_0, c5_1, c5_2⟩ := S.c3 5 rfl; go_wp2_with fail; clear c3_0 c3_1 c3_2 c3_3 c3_4 c3_5 c3_6 c3_7 c3_8 c3_9 c3_10 c3_11 c4_0 c4_1 c4_2 c5_0 c5_1 c5_2
          refine (S.call (dmul_any (HK.out.2.2.2.1.below S.below) ⟨b1, p1, l1, K1, m1, e1, rfl, h1, n1, d1⟩ ⟨b4, p4, l4, K4, m4, e4, rfl, h4, n4, d4⟩ HK.out.1 (x * v) rfl)).mono ?_
          clear S
          rintro e w41 ⟨⟨_, rfl, b6, p6, l6, K6, m6, e6, rfl, h6, n6, d6⟩, S, H⟩
          refine iv5 H n1 n2 n3 n4 n5 ?_; clear n1 n2 n3 n4 n5; intro n1 n2 n3 n4 n5
          clear H; obtain ⟨c3_0, c3_1, c3_2, c3_3, c3_4, c3_5⟩ := S.c6 3 rfl; have c3_6 := S.c 3 6 rfl rfl; have c3_7 := S.c 3 7 rfl rfl; have c3_8 := S.c 3 8 rfl rfl; have c3_9 := S.c 3 9 rfl rfl; have c3_10 := S.c 3 10 rfl rfl; have c3_11 := S.c 3 11 rfl rfl; obtain ⟨c4_0, c4_1, c4_2⟩ := S.c3 4 rfl; obtain ⟨c5_0, c5_1, c5_2⟩ := S.c3 5 rfl; clear c3_0 c3_1 c3_2 c3_3 c3_4 c3_5 c3_6 c3_7 c3_8 c3_9 c3_10 c3_11 c4_0 c4_1 c4_2 c5_0 c5_1 c5_2; obtain ⟨c3_0, c3_1, c3_2, c3_3, c3_4, c3_5⟩ := S.c6 3 rfl; have c3_6 := S.c 3 6 rfl rfl; have c3_7 := S.c 3 7 rfl rfl; have c3_8 := S.c 3 8 rfl rfl; have c3_9 := S.c 3 9 rfl rfl; have c3_10 := S.c 3 10 rfl rfl; have c3_11 := S.c 3 11 rfl rfl; have f3_3 := S.f 3 3 rfl
          have H := S.hset 3 3 (.bool b6) rfl rfl (by intro q n e; cases e)
          replace S := S.set 3 3 (.bool b6) rfl
          refine iv6 H n1 n2 n3 n4 n5 n6 ?_; clear n1 n2 n3 n4 n5 n6; intro n1 n2 n3 n4 n5 n6
          clear H; have f3_4 := S.f 3 4 rfl
          have H := S.hset 3 4 (.slice p6 l6 K6) rfl rfl (by intro q n e; cases e)
          replace S := S.set 3 4 (.slice p6 l6 K6) rfl
          refine iv6 H n1 n2 n3 n4 n5 n6 ?_; clear n1 n2 n3 n4 n5 n6; intro n1 n2 n3 n4 n5 n6
          clear H; have f3_5 := S.f 3 5 rfl
          have H := S.hset32 3 5 (.int .i64 e6) rfl rfl (by intro n e; cases e)
          replace S := S.set 3 5 (.int .i64 e6) rfl
          refine iw6 H n1 n2 n3 n4 n5 n6 ?_; clear n1 n2 n3 n4 n5 n6; intro n1 n2 n3 n4 n5 n6; clear H; go_wp2_with fail
          replace S := S.take 5 (L := [(w.heap.size, 29, [.bool b1, .slice p1 l1 K1, .int .i64 e1, .bool b2, .slice p2 l2 K2, .int .i64 e2]), (w.heap.size + 1, 29, [.bool b3, .slice p3 l3 K3, .int .i64 e3, .bool b4, .slice p4 l4 K4, .int .i64 e4]), (w.heap.size + 1 + 1, 29, [.bool false, .slice none 0 0, .int .i64 0, .bool false, .slice none 0 0, .int .i64 0]), (w.heap.size + 1 + 1 + 1, 103, [.bool b5, .slice p5 l5 K5, .int .i64 e5, .bool b6, .slice p6 l6 K6, .int .i64 e6, .bool false, .slice none 0 0, .int .i64 0, .bool false, .slice none 0 0, .int .i64 0]), (g10, 27, [.bool b1, .slice p1 l1 K1, .int .i64 e1])]) rfl
          go_roundw
          case rel => exact .inr (.inr ⟨rfl, n1, n2, n3, n4, b5, p5, l5, K5, m5, e5, b6, p6, l6, K6, m6, e6, h5, n5, d5, h6, n6, d6, S⟩)
          case measure => simp [intOf]
        ·
          go_wp2_with fail
          replace S := S.take 4 (L := [(w.heap.size, 29, [.bool b1, .slice p1 l1 K1, .int .i64 e1, .bool b2, .slice p2 l2 K2, .int .i64 e2]), (w.heap.size + 1, 29, [.bool b3, .slice p3 l3 K3, .int .i64 e3, .bool b4, .slice p4 l4 K4, .int .i64 e4]), (w.heap.size + 1 + 1, 29, [.bool false, .slice none 0 0, .int .i64 0, .bool false, .slice none 0 0, .int .i64 0]), (w.heap.size + 1 + 1 + 1, 103, [.bool b5, .slice p5 l5 K5, .int .i64 e5, .bool b6, .slice p6 l6 K6, .int .i64 e6, .bool false, .slice none 0 0, .int .i64 0, .bool false, .slice none 0 0, .int .i64 0])]) rfl
          go_roundw
          case rel => exact .inr (.inl ⟨rfl, n1, n2, n3, n4, b5, p5, l5, K5, m5, e5, b6, p6, l6, K6, m6, e6, h5, n5, d5, h6, n6, d6, S⟩)
          case measure => simp [intOf]
    ·
      have H := S.hnew 27 [.bool b2, .slice p2 l2 K2, .int .i64 e2]
      replace S := S.al 27 [.bool b2, .slice p2 l2 K2, .int .i64 e2] (wr.heap.size)
      refine iv6 H n1 n2 n3 n4 n5 n6 ?_; clear n1 n2 n3 n4 n5 n6; intro n1 n2 n3 n4 n5 n6
      clear H; obtain ⟨c0_0, c0_1, c0_2, c0_3, c0_4, c0_5⟩ := S.c6 0 rfl; obtain ⟨c1_0, c1_1, c1_2, c1_3, c1_4, c1_5⟩ := S.c6 1 rfl; obtain ⟨c2_0, c2_1, c2_2, c2_3, c2_4, c2_5⟩ := S.c6 2 rfl; obtain ⟨c3_0, c3_1, c3_2, c3_3, c3_4, c3_5⟩ := S.c6 3 rfl; have c3_6 := S.c 3 6 rfl rfl; have c3_7 := S.c 3 7 rfl rfl; have c3_8 := S.c 3 8 rfl rfl; have c3_9 := S.c 3 9 rfl rfl; have c3_10 := S.c 3 10 rfl rfl; have c3_11 := S.c 3 11 rfl rfl; obtain ⟨c4_0, c4_1, c4_2⟩ := S.c3 4 rfl; go_wp2_with fail; clear c0_0 c0_1 c0_2 c0_3 c0_4 c0_5 c1_0 c1_1 c1_2 c1_3 c1_4 c1_5 c2_0 c2_1 c2_2 c2_3 c2_4 c2_5 c3_0 c3_1 c3_2 c3_3 c3_4 c3_5 c3_6 c3_7 c3_8 c3_9 c3_10 c3_11 c4_0 c4_1 c4_2
      refine (S.call (sends_any b3 b4 p3 p4 l3 K3 l4 K4 e3 e4 _)).mono ?_
      clear S
      rintro e w21 ⟨rfl, S, H⟩
      refine iv6 H n1 n2 n3 n4 n5 n6 ?_; clear n1 n2 n3 n4 n5 n6; intro n1 n2 n3 n4 n5 n6
      clear H; obtain ⟨c0_0, c0_1, c0_2, c0_3, c0_4, c0_5⟩ := S.c6 0 rfl; obtain ⟨c1_0, c1_1, c1_2, c1_3, c1_4, c1_5⟩ := S.c6 1 rfl; obtain ⟨c2_0, c2_1, c2_2, c2_3, c2_4, c2_5⟩ := S.c6 2 rfl; obtain ⟨c3_0, c3_1, c3_2, c3_3, c3_4, c3_5⟩ := S.c6 3 rfl; have c3_6 := S.c 3 6 rfl rfl; have c3_7 := S.c 3 7 rfl rfl; have c3_8 := S.c 3 8 rfl rfl; have c3_9 := S.c 3 9 rfl rfl; have c3_10 := S.c 3 10 rfl rfl; have c3_11 := S.c 3 11 rfl rfl; obtain ⟨c4_0, c4_1, c4_2⟩ := S.c3 4 rfl; go_wp2_with fail; clear c0_0 c0_1 c0_2 c0_3 c0_4 c0_5 c1_0 c1_1 c1_2 c1_3 c1_4 c1_5 c2_0 c2_1 c2_2 c2_3 c2_4 c2_5 c3_0 c3_1 c3_2 c3_3 c3_4 c3_5 c3_6 c3_7 c3_8 c3_9 c3_10 c3_11 c4_0 c4_1 c4_2
      obtain ⟨g10, hg10⟩ : ∃ g, wr.heap.size = g := ⟨_, rfl⟩
      rw [hg10] at S ⊢
      clear hg10
      go_loopw [26] (fun si wr => (si = .int .i64 0 ∧ IsNat wr (.slice p1 l1 K1) m1.natAbs ∧ IsNat wr (.slice p2 l2 K2) m2.natAbs ∧ IsNat wr (.slice p3 l3 K3) m3.natAbs ∧ IsNat wr (.slice p4 l4 K4) m4.natAbs ∧ ∃ b5 p5 l5 K5 m5 e5 b6 p6 l6 K6 m6 e6, Hid (negB m5 = b5) ∧ IsNat wr (.slice p5 l5 K5) m5.natAbs ∧ Hid (DyF m5 e5 (x * u) (L + M) (H + I)) ∧ Hid (negB m6 = b6) ∧ IsNat wr (.slice p6 l6 K6) m6.natAbs ∧ Hid (DyF m6 e6 (x * v) (L + M) (H + I)) ∧ St w wr [(w.heap.size, 29, [.bool b1, .slice p1 l1 K1, .int .i64 e1, .bool b2, .slice p2 l2 K2, .int .i64 e2]), (w.heap.size + 1, 29, [.bool b3, .slice p3 l3 K3, .int .i64 e3, .bool b4, .slice p4 l4 K4, .int .i64 e4]), (w.heap.size + 1 + 1, 29, [.bool false, .slice none 0 0, .int .i64 0, .bool false, .slice none 0 0, .int .i64 0]), (w.heap.size + 1 + 1 + 1, 103, [.bool b5, .slice p5 l5 K5, .int .i64 e5, .bool b6, .slice p6 l6 K6, .int .i64 e6, .bool false, .slice none 0 0, .int .i64 0, .bool false, .slice none 0 0, .int .i64 0]), (g10, 27, [.bool b2, .slice p2 l2 K2, .int .i64 e2])]) ∨ (si = .int .i64 1 ∧ IsNat wr (.slice p1 l1 K1) m1.natAbs ∧ IsNat wr (.slice p2 l2 K2) m2.natAbs ∧ IsNat wr (.slice p3 l3 K3) m3.natAbs ∧ IsNat wr (.slice p4 l4 K4) m4.natAbs ∧ ∃ b5 p5 l5 K5 m5 e5 b6 p6 l6 K6 m6 e6 b7 p7 l7 K7 m7 e7, Hid (negB m5 = b5) ∧ IsNat wr (.slice p5 l5 K5) m5.natAbs ∧ Hid (DyF m5 e5 (x * u) (L + M) (H + I)) ∧ Hid (negB m6 = b6) ∧ IsNat wr (.slice p6 l6 K6) m6.natAbs ∧ Hid (DyF m6 e6 (x * v) (L + M) (H + I)) ∧ Hid (negB m7 = b7) ∧ IsNat wr (.slice p7 l7 K7) m7.natAbs ∧ Hid (DyF m7 e7 (y * u) (L + M) (H + I)) ∧ St w wr [(w.heap.size, 29, [.bool b1, .slice p1 l1 K1, .int .i64 e1, .bool b2, .slice p2 l2 K2, .int .i64 e2]), (w.heap.size + 1, 29, [.bool b3, .slice p3 l3 K3, .int .i64 e3, .bool b4, .slice p4 l4 K4, .int .i64 e4]), (w.heap.size + 1 + 1, 29, [.bool false, .slice none 0 0, .int .i64 0, .bool false, .slice none 0 0, .int .i64 0]), (w.heap.size + 1 + 1 + 1, 103, [.bool b5, .slice p5 l5 K5, .int .i64 e5, .bool b6, .slice p6 l6 K6, .int .i64 e6, .bool b7, .slice p7 l7 K7, .int .i64 e7, .bool false, .slice none 0 0, .int .i64 0]), (g10, 27, [.bool b2, .slice p2 l2 K2, .int .i64 e2])]) ∨ (si = .int .i64 2 ∧ IsNat wr (.slice p1 l1 K1) m1.natAbs ∧ IsNat wr (.slice p2 l2 K2) m2.natAbs ∧ IsNat wr (.slice p3 l3 K3) m3.natAbs ∧ IsNat wr (.slice p4 l4 K4) m4.natAbs ∧ ∃ b5 p5 l5 K5 m5 e5 b6 p6 l6 K6 m6 e6 b7 p7 l7 K7 m7 e7 b8 p8 l8 K8 m8 e8, Hid (negB m5 = b5) ∧ IsNat wr (.slice p5 l5 K5) m5.natAbs ∧ Hid (DyF m5 e5 (x * u) (L + M) (H + I)) ∧ Hid (negB m6 = b6) ∧ IsNat wr (.slice p6 l6 K6) m6.natAbs ∧ Hid (DyF m6 e6 (x * v) (L + M) (H + I)) ∧ Hid (negB m7 = b7) ∧ IsNat wr (.slice p7 l7 K7) m7.natAbs ∧ Hid (DyF m7 e7 (y * u) (L + M) (H + I)) ∧ Hid (negB m8 = b8) ∧ IsNat wr (.slice p8 l8 K8) m8.natAbs ∧ Hid (DyF m8 e8 (y * v) (L + M) (H + I)) ∧ St w wr [(w.heap.size, 29, [.bool b1, .slice p1 l1 K1, .int .i64 e1, .bool b2, .slice p2 l2 K2, .int .i64 e2]), (w.heap.size + 1, 29, [.bool b3, .slice p3 l3 K3, .int .i64 e3, .bool b4, .slice p4 l4 K4, .int .i64 e4]), (w.heap.size + 1 + 1, 29, [.bool false, .slice none 0 0, .int .i64 0, .bool false, .slice none 0 0, .int .i64 0]), (w.heap.size + 1 + 1 + 1, 103, [.bool b5, .slice p5 l5 K5, .int .i64 e5, .bool b6, .slice p6 l6 K6, .int .i64 e6, .bool b7, .slice p7 l7 K7, .int .i64 e7, .bool b8, .slice p8 l8 K8, .int .i64 e8]), (g10, 27, [.bool b2, .slice p2 l2 K2, .int .i64 e2])])) (fun si _ => 2 - (intOf si).toNat)
      case atStart => exact .inl ⟨rfl, n1, n2, n3, n4, b5, p5, l5, K5, m5, e5, b6, p6, l6, K6, m6, e6, h5, n5, d5, h6, n6, d6, S⟩
      case round =>
        clear n1 n2 n3 n4 n5 n6 S
        rcases hrel with ⟨rfl, n1, n2, n3, n4, b5, p5, l5, K5, m5, e5, b6, p6, l6, K6, m6, e6, h5, n5, d5, h6, n6, d6, S⟩ | ⟨rfl, n1, n2, n3, n4, b5, p5, l5, K5, m5, e5, b6, p6, l6, K6, m6, e6, b7, p7, l7, K7, m7, e7, h5, n5, d5, h6, n6, d6, h7, n7, d7, S⟩ | ⟨rfl, n1, n2, n3, n4, b5, p5, l5, K5, m5, e5, b6, p6, l6, K6, m6, e6, b7, p7, l7, K7, m7, e7, b8, p8, l8, K8, m8, e8, h5, n5, d5, h6, n6, d6, h7, n7, d7, h8, n8, d8, S⟩
        ·
          have H := S.hnew 27 [.bool b3, .slice p3 l3 K3, .int .i64 e3]
          replace S := S.al 27 [.bool b3, .slice p3 l3 K3, .int .i64 e3] (wr.heap.size)
          refine iv6 H n1 n2 n3 n4 n5 n6 ?_; clear n1 n2 n3 n4 n5 n6; intro n1 n2 n3 n4 n5 n6
          clear H; obtain ⟨c3_0, c3_1, c3_2, c3_3, c3_4, c3_5⟩ := S.c6 3 rfl; have c3_6 := S.c 3 6 rfl rfl; have c3_7 := S.c 3 7 rfl rfl; have c3_8 := S.c 3 8 rfl rfl; have c3_9 := S.c 3 9 rfl rfl; have c3_10 := S.c 3 10 rfl rfl; have c3_11 := S.c 3 11 rfl rfl; obtain ⟨c4_0, c4_1, c4_2⟩ := S.c3 4 rfl; obtain ⟨c5_0, c5_1, c5_2⟩ := S.c3 5 rfl; go_wp2_with fail; clear c3_0 c3_1 c3_2 c3_3 c3_4 c3_5 c3_6 c3_7 c3_8 c3_9 c3_10 c3_11 c4_0 c4_1 c4_2 c5_0 c5_1 c5_2
          refine (S.call (dmul_any (HK.out.2.2.2.1.below S.below) ⟨b2, p2, l2, K2, m2, e2, rfl, h2, n2, d2⟩ ⟨b3, p3, l3, K3, m3, e3, rfl, h3, n3, d3⟩ HK.out.1 (y * u) rfl)).mono ?_
          clear S
          rintro e w41 ⟨⟨_, rfl, b7, p7, l7, K7, m7, e7, rfl, h7, n7, d7⟩, S, H⟩
          refine iv6 H n1 n2 n3 n4 n5 n6 ?_; clear n1 n2 n3 n4 n5 n6; intro n1 n2 n3 n4 n5 n6
          clear H; obtain ⟨c3_0, c3_1, c3_2, c3_3, c3_4, c3_5⟩ := S.c6 3 rfl; have c3_6 := S.c 3 6 rfl rfl; have c3_7 := S.c 3 7 rfl rfl; have c3_8 := S.c 3 8 rfl rfl; have c3_9 := S.c 3 9 rfl rfl; have c3_10 := S.c 3 10 rfl rfl; have c3_11 := S.c 3 11 rfl rfl; obtain ⟨c4_0, c4_1, c4_2⟩ := S.c3 4 rfl; obtain ⟨c5_0, c5_1, c5_2⟩ := S.c3 5 rfl; clear c3_0 c3_1 c3_2 c3_3 c3_4 c3_5 c3_6 c3_7 c3_8 c3_9 c3_10 c3_11 c4_0 c4_1 c4_2 c5_0 c5_1 c5_2; obtain ⟨c3_0, c3_1, c3_2, c3_3, c3_4, c3_5⟩ := S.c6 3 rfl; have c3_6 := S.c 3 6 rfl rfl; have c3_7 := S.c 3 7 rfl rfl; have c3_8 := S.c 3 8 rfl rfl; have c3_9 := S.c 3 9 rfl rfl; have c3_10 := S.c 3 10 rfl rfl; have c3_11 := S.c 3 11 rfl rfl; have f3_6 := S.f 3 6 rfl
          have H := S.hset 3 6 (.bool b7) rfl rfl (by intro q n e; cases e)
          replace S := S.set 3 6 (.bool b7) rfl
          refine iv7 H n1 n2 n3 n4 n5 n6 n7 ?_; clear n1 n2 n3 n4 n5 n6 n7; intro n1 n2 n3 n4 n5 n6 n7
          clear H; have f3_7 := S.f 3 7 rfl
          have H := S.hset 3 7 (.slice p7 l7 K7) rfl rfl (by intro q n e; cases e)
          replace S := S.set 3 7 (.slice p7 l7 K7) rfl
          refine iv7 H n1 n2 n3 n4 n5 n6 n7 ?_; clear n1 n2 n3 n4 n5 n6 n7; intro n1 n2 n3 n4 n5 n6 n7
          clear H; have f3_8 := S.f 3 8 rfl
          have H := S.hset32 3 8 (.int .i64 e7) rfl rfl (by intro n e; cases e)
          replace S := S.set 3 8 (.int .i64 e7) rfl
          refine iw7 H n1 n2 n3 n4 n5 n6 n7 ?_; clear n1 n2 n3 n4 n5 n6 n7; intro n1 n2 n3 n4 n5 n6 n7; clear H; go_wp2_with fail
          replace S := S.take 5 (L := [(w.heap.size, 29, [.bool b1, .slice p1 l1 K1, .int .i64 e1, .bool b2, .slice p2 l2 K2, .int .i64 e2]), (w.heap.size + 1, 29, [.bool b3, .slice p3 l3 K3, .int .i64 e3, .bool b4, .slice p4 l4 K4, .int .i64 e4]), (w.heap.size + 1 + 1, 29, [.bool false, .slice none 0 0, .int .i64 0, .bool false, .slice none 0 0, .int .i64 0]), (w.heap.size + 1 + 1 + 1, 103, [.bool b5, .slice p5 l5 K5, .int .i64 e5, .bool b6, .slice p6 l6 K6, .int .i64 e6, .bool b7, .slice p7 l7 K7, .int .i64 e7, .bool false, .slice none 0 0, .int .i64 0]), (g10, 27, [.bool b2, .slice p2 l2 K2, .int .i64 e2])]) rfl
          go_roundw
          case rel => exact .inr (.inl ⟨rfl, n1, n2, n3, n4, b5, p5, l5, K5, m5, e5, b6, p6, l6, K6, m6, e6, b7, p7, l7, K7, m7, e7, h5, n5, d5, h6, n6, d6, h7, n7, d7, S⟩)
          case measure => simp [intOf]
        ·
          have H := S.hnew 27 [.bool b4, .slice p4 l4 K4, .int .i64 e4]
          replace S := S.al 27 [.bool b4, .slice p4 l4 K4, .int .i64 e4] (wr.heap.size)
          refine iv7 H n1 n2 n3 n4 n5 n6 n7 ?_; clear n1 n2 n3 n4 n5 n6 n7; intro n1 n2 n3 n4 n5 n6 n7
          clear H; obtain ⟨c3_0, c3_1, c3_2, c3_3, c3_4, c3_5⟩ := S.c6 3 rfl; have c3_6 := S.c 3 6 rfl rfl; have c3_7 := S.c 3 7 rfl rfl; have c3_8 := S.c 3 8 rfl rfl; have c3_9 := S.c 3 9 rfl rfl; have c3_10 := S.c 3 10 rfl rfl; have c3_11 := S.c 3 11 rfl rfl; obtain ⟨c4_0, c4_1, c4_2⟩ := S.c3 4 rfl; obtain ⟨c5_0, c5_1, c5_2⟩ := S.c3 5 rfl; go_wp2_with fail; clear c3_0 c3_1 c3_2 c3_3 c3_4 c3_5 c3_6 c3_7 c3_8 c3_9 c3_10 c3_11 c4_0 c4_1 c4_2 c5_0 c5_1 c5_2
          refine (S.call (dmul_any (HK.out.2.2.2.1.below S.below) ⟨b2, p2, l2, K2, m2, e2, rfl, h2, n2, d2⟩ ⟨b4, p4, l4, K4, m4, e4, rfl, h4, n4, d4⟩ HK.out.1 (y * v) rfl)).mono ?_
          clear S
          rintro e w41 ⟨⟨_, rfl, b8, p8, l8, K8, m8, e8, rfl, h8, n8, d8⟩, S, H⟩
          refine iv7 H n1 n2 n3 n4 n5 n6 n7 ?_; clear n1 n2 n3 n4 n5 n6 n7; intro n1 n2 n3 n4 n5 n6 n7
          clear H; obtain ⟨c3_0, c3_1, c3_2, c3_3, c3_4, c3_5⟩ := S.c6 3 rfl; have c3_6 := S.c 3 6 rfl rfl; have c3_7 := S.c 3 7 rfl rfl; have c3_8 := S.c 3 8 rfl rfl; have c3_9 := S.c 3 9 rfl rfl; have c3_10 := S.c 3 10 rfl rfl; have c3_11 := S.c 3 11 rfl rfl; obtain ⟨c4_0, c4_1, c4_2⟩ := S.c3 4 rfl; obtain ⟨c5_0, c5_1, c5_2⟩ := S.c3 5 rfl; clear c3_0 c3_1 c3_2 c3_3 c3_4 c3_5 c3_6 c3_7 c3_8 c3_9 c3_10 c3_11 c4_0 c4_1 c4_2 c5_0 c5_1 c5_2; obtain ⟨c3_0, c3_1, c3_2, c3_3, c3_4, c3_5⟩ := S.c6 3 rfl; have c3_6 := S.c 3 6 rfl rfl; have c3_7 := S.c 3 7 rfl rfl; have c3_8 := S.c 3 8 rfl rfl; have c3_9 := S.c 3 9 rfl rfl; have c3_10 := S.c 3 10 rfl rfl; have c3_11 := S.c 3 11 rfl rfl; have f3_9 := S.f 3 9 rfl
          have H := S.hset 3 9 (.bool b8) rfl rfl (by intro q n e; cases e)
          replace S := S.set 3 9 (.bool b8) rfl
          refine iv8 H n1 n2 n3 n4 n5 n6 n7 n8 ?_; clear n1 n2 n3 n4 n5 n6 n7 n8; intro n1 n2 n3 n4 n5 n6 n7 n8
          clear H; have f3_10 := S.f 3 10 rfl
          have H := S.hset 3 10 (.slice p8 l8 K8) rfl rfl (by intro q n e; cases e)
          replace S := S.set 3 10 (.slice p8 l8 K8) rfl
          refine iv8 H n1 n2 n3 n4 n5 n6 n7 n8 ?_; clear n1 n2 n3 n4 n5 n6 n7 n8; intro n1 n2 n3 n4 n5 n6 n7 n8
          clear H; have f3_11 := S.f 3 11 rfl
          have H := S.hset32 3 11 (.int .i64 e8) rfl rfl (by intro n e; cases e)
          replace S := S.set 3 11 (.int .i64 e8) rfl
          refine iw8 H n1 n2 n3 n4 n5 n6 n7 n8 ?_; clear n1 n2 n3 n4 n5 n6 n7 n8; intro n1 n2 n3 n4 n5 n6 n7 n8; clear H; go_wp2_with fail
          replace S := S.take 5 (L := [(w.heap.size, 29, [.bool b1, .slice p1 l1 K1, .int .i64 e1, .bool b2, .slice p2 l2 K2, .int .i64 e2]), (w.heap.size + 1, 29, [.bool b3, .slice p3 l3 K3, .int .i64 e3, .bool b4, .slice p4 l4 K4, .int .i64 e4]), (w.heap.size + 1 + 1, 29, [.bool false, .slice none 0 0, .int .i64 0, .bool false, .slice none 0 0, .int .i64 0]), (w.heap.size + 1 + 1 + 1, 103, [.bool b5, .slice p5 l5 K5, .int .i64 e5, .bool b6, .slice p6 l6 K6, .int .i64 e6, .bool b7, .slice p7 l7 K7, .int .i64 e7, .bool b8, .slice p8 l8 K8, .int .i64 e8]), (g10, 27, [.bool b2, .slice p2 l2 K2, .int .i64 e2])]) rfl
          go_roundw
          case rel => exact .inr (.inr ⟨rfl, n1, n2, n3, n4, b5, p5, l5, K5, m5, e5, b6, p6, l6, K6, m6, e6, b7, p7, l7, K7, m7, e7, b8, p8, l8, K8, m8, e8, h5, n5, d5, h6, n6, d6, h7, n7, d7, h8, n8, d8, S⟩)
          case measure => simp [intOf]
        ·
          go_wp2_with fail
          replace S := S.take 4 (L := [(w.heap.size, 29, [.bool b1, .slice p1 l1 K1, .int .i64 e1, .bool b2, .slice p2 l2 K2, .int .i64 e2]), (w.heap.size + 1, 29, [.bool b3, .slice p3 l3 K3, .int .i64 e3, .bool b4, .slice p4 l4 K4, .int .i64 e4]), (w.heap.size + 1 + 1, 29, [.bool false, .slice none 0 0, .int .i64 0, .bool false, .slice none 0 0, .int .i64 0]), (w.heap.size + 1 + 1 + 1, 103, [.bool b5, .slice p5 l5 K5, .int .i64 e5, .bool b6, .slice p6 l6 K6, .int .i64 e6, .bool b7, .slice p7 l7 K7, .int .i64 e7, .bool b8, .slice p8 l8 K8, .int .i64 e8])]) rfl
          go_roundw
          case rel => exact .inr (.inr ⟨rfl, n1, n2, n3, n4, b5, p5, l5, K5, m5, e5, b6, p6, l6, K6, m6, e6, b7, p7, l7, K7, m7, e7, b8, p8, l8, K8, m8, e8, h5, n5, d5, h6, n6, d6, h7, n7, d7, h8, n8, d8, S⟩)
          case measure => simp [intOf]
    ·
      obtain ⟨c3_0, c3_1, c3_2, c3_3, c3_4, c3_5⟩ := S.c6 3 rfl; have c3_6 := S.c 3 6 rfl rfl; have c3_7 := S.c 3 7 rfl rfl; have c3_8 := S.c 3 8 rfl rfl; have c3_9 := S.c 3 9 rfl rfl; have c3_10 := S.c 3 10 rfl rfl; have c3_11 := S.c 3 11 rfl rfl
      go_upto_region 14 with fail
      clear c3_0 c3_1 c3_2 c3_3 c3_4 c3_5 c3_6 c3_7 c3_8 c3_9 c3_10 c3_11
      go_cut [14, 15] (fun s14 s15 wx => ∃ g14 g15, s14 = .pointer (some ⟨g14, 0, none⟩) ∧ s15 = .pointer (some ⟨g15, 0, none⟩) ∧ Su w wx [(w.heap.size, 29, [.bool b1, .slice p1 l1 K1, .int .i64 e1, .bool b2, .slice p2 l2 K2, .int .i64 e2]), (w.heap.size + 1, 29, [.bool b3, .slice p3 l3 K3, .int .i64 e3, .bool b4, .slice p4 l4 K4, .int .i64 e4]), (w.heap.size + 1 + 1, 29, [.bool false, .slice none 0 0, .int .i64 0, .bool false, .slice none 0 0, .int .i64 0]), (w.heap.size + 1 + 1 + 1, 103, [.bool b5, .slice p5 l5 K5, .int .i64 e5, .bool b6, .slice p6 l6 K6, .int .i64 e6, .bool b7, .slice p7 l7 K7, .int .i64 e7, .bool b8, .slice p8 l8 K8, .int .i64 e8]), (g14, 27, [.bool b5, .slice p5 l5 K5, .int .i64 e5]), (g15, 27, [.bool b5, .slice p5 l5 K5, .int .i64 e5])] ∧ Hold32 wr wx)
      case first =>
        have HH := (Hold.drew wr).to32
        refine iw8 HH n1 n2 n3 n4 n5 n6 n7 n8 ?_; clear n1 n2 n3 n4 n5 n6 n7 n8; intro n1 n2 n3 n4 n5 n6 n7 n8
        replace S := S.drew
        refine wp_region_held_drew (S := fun W => W.cell? ⟨w.heap.size + 1 + 1 + 1, 0, none⟩ = some (.bool b5) ∧ W.cell? ⟨w.heap.size + 1 + 1 + 1, 1, none⟩ = some (.slice p5 l5 K5) ∧ W.cell? ⟨w.heap.size + 1 + 1 + 1, 2, none⟩ = some (.int .i64 e5)) (by kernel_rfl) (S.c3 3 rfl) (fun hS => ?_)
        generalize wr.drew = w21 at S n1 n2 n3 n4 n5 n6 n7 n8 HH hS ⊢
        refine tk 0 hS ?_
        refine tk 1 hS ?_
        refine tk 2 hS ?_
        refine tk 3 hS ?_
        refine wpAnyH_ready (rs := [4, 5]) (by kernel_rfl) (by simp) (AllReadyH.cons (opOf rfl) (fun KK hKK => ?_) (AllReadyH.cons (opOf rfl) (fun KK hKK => ?_) AllReadyH.nil))
        ·
          go_simp; clear hS
          have H := S.hnew 27 [.bool false, .slice none 0 0, .int .i64 0]
          replace S := S.al 27 [.bool false, .slice none 0 0, .int .i64 0] (w21.heap.size)
          refine iv8 H n1 n2 n3 n4 n5 n6 n7 n8 ?_; clear n1 n2 n3 n4 n5 n6 n7 n8; intro n1 n2 n3 n4 n5 n6 n7 n8; replace HH := HH.trans H.to32; clear H
          refine ho hKK (S.c3 3 rfl) fun hS => ?_
          generalize (w21.alloc (.cells #[.bool false, .slice none 0 0, .int .i64 0] 27)) = w22 at S n1 n2 n3 n4 n5 n6 n7 n8 HH hS ⊢
          clear hKK KK
          refine rd 5 fun KK hKK => ?_
          go_simp; clear hS
          have H := S.hnew 27 [.bool false, .slice none 0 0, .int .i64 0]
          replace S := S.al 27 [.bool false, .slice none 0 0, .int .i64 0] (w22.heap.size)
          refine iv8 H n1 n2 n3 n4 n5 n6 n7 n8 ?_; clear n1 n2 n3 n4 n5 n6 n7 n8; intro n1 n2 n3 n4 n5 n6 n7 n8; replace HH := HH.trans H.to32; clear H
          refine ho hKK (S.c3 3 rfl) fun hS => ?_
          generalize (w22.alloc (.cells #[.bool false, .slice none 0 0, .int .i64 0] 27)) = w23 at S n1 n2 n3 n4 n5 n6 n7 n8 HH hS ⊢
          clear hKK KK
          refine rd 6 fun KK hKK => ?_
          obtain ⟨c0, c1, c2⟩ := S.c3 4 rfl; obtain ⟨f0, f1, f2⟩ := S.f3 4 rfl
          go_simp; clear hS c0 f0 c1 f1 c2 f2
          have HP := S.put3 4 (.bool b5) (.slice p5 l5 K5) (.int .i64 e5) rfl rfl; have H := HP.2; replace S := HP.1; clear HP
          refine iw8 H n1 n2 n3 n4 n5 n6 n7 n8 ?_; clear n1 n2 n3 n4 n5 n6 n7 n8; intro n1 n2 n3 n4 n5 n6 n7 n8; replace HH := HH.trans H; clear H
          refine ho hKK (S.c3 3 rfl) fun hS => ?_
          generalize (((w23.setCell ⟨w21.heap.size, 0, none⟩ (.bool b5)).setCell ⟨w21.heap.size, 1, none⟩ (.slice p5 l5 K5)).setCell ⟨w21.heap.size, 2, none⟩ (.int .i64 e5)) = w24 at S n1 n2 n3 n4 n5 n6 n7 n8 HH hS ⊢
          clear hKK KK
          refine rd 7 fun KK hKK => ?_
          obtain ⟨c0, c1, c2⟩ := S.c3 5 rfl; obtain ⟨f0, f1, f2⟩ := S.f3 5 rfl
          go_simp; clear hS c0 f0 c1 f1 c2 f2
          have HP := S.put3 5 (.bool b5) (.slice p5 l5 K5) (.int .i64 e5) rfl rfl; have H := HP.2; replace S := HP.1; clear HP
          refine iw8 H n1 n2 n3 n4 n5 n6 n7 n8 ?_; clear n1 n2 n3 n4 n5 n6 n7 n8; intro n1 n2 n3 n4 n5 n6 n7 n8; replace HH := HH.trans H; clear H
          refine ho hKK (S.c3 3 rfl) fun hS => ?_
          generalize (((w24.setCell ⟨w22.heap.size, 0, none⟩ (.bool b5)).setCell ⟨w22.heap.size, 1, none⟩ (.slice p5 l5 K5)).setCell ⟨w22.heap.size, 2, none⟩ (.int .i64 e5)) = w25 at S n1 n2 n3 n4 n5 n6 n7 n8 HH hS ⊢
          clear hKK KK
          refine wpAnyH_done (by kernel_rfl) ?_ _
          go_wp2_with fail
          go_meet
          case rel => exact ⟨w21.heap.size, w22.heap.size, rfl, rfl, Su.of S [0, 1, 2, 3, 4, 5] rfl, HH⟩
        ·
          go_simp; clear hS
          have H := S.hnew 27 [.bool false, .slice none 0 0, .int .i64 0]
          replace S := S.al 27 [.bool false, .slice none 0 0, .int .i64 0] (w21.heap.size)
          refine iv8 H n1 n2 n3 n4 n5 n6 n7 n8 ?_; clear n1 n2 n3 n4 n5 n6 n7 n8; intro n1 n2 n3 n4 n5 n6 n7 n8; replace HH := HH.trans H.to32; clear H
          refine ho hKK (S.c3 3 rfl) fun hS => ?_
          generalize (w21.alloc (.cells #[.bool false, .slice none 0 0, .int .i64 0] 27)) = w26 at S n1 n2 n3 n4 n5 n6 n7 n8 HH hS ⊢
          clear hKK KK
          refine rd 4 fun KK hKK => ?_
          go_simp; clear hS
          have H := S.hnew 27 [.bool false, .slice none 0 0, .int .i64 0]
          replace S := S.al 27 [.bool false, .slice none 0 0, .int .i64 0] (w26.heap.size)
          refine iv8 H n1 n2 n3 n4 n5 n6 n7 n8 ?_; clear n1 n2 n3 n4 n5 n6 n7 n8; intro n1 n2 n3 n4 n5 n6 n7 n8; replace HH := HH.trans H.to32; clear H
          refine ho hKK (S.c3 3 rfl) fun hS => ?_
          generalize (w26.alloc (.cells #[.bool false, .slice none 0 0, .int .i64 0] 27)) = w27 at S n1 n2 n3 n4 n5 n6 n7 n8 HH hS ⊢
          clear hKK KK
          refine rd 6 fun KK hKK => ?_
          obtain ⟨c0, c1, c2⟩ := S.c3 5 rfl; obtain ⟨f0, f1, f2⟩ := S.f3 5 rfl
          go_simp; clear hS c0 f0 c1 f1 c2 f2
          have HP := S.put3 5 (.bool b5) (.slice p5 l5 K5) (.int .i64 e5) rfl rfl; have H := HP.2; replace S := HP.1; clear HP
          refine iw8 H n1 n2 n3 n4 n5 n6 n7 n8 ?_; clear n1 n2 n3 n4 n5 n6 n7 n8; intro n1 n2 n3 n4 n5 n6 n7 n8; replace HH := HH.trans H; clear H
          refine ho hKK (S.c3 3 rfl) fun hS => ?_
          generalize (((w27.setCell ⟨w26.heap.size, 0, none⟩ (.bool b5)).setCell ⟨w26.heap.size, 1, none⟩ (.slice p5 l5 K5)).setCell ⟨w26.heap.size, 2, none⟩ (.int .i64 e5)) = w28 at S n1 n2 n3 n4 n5 n6 n7 n8 HH hS ⊢
          clear hKK KK
          refine rd 7 fun KK hKK => ?_
          obtain ⟨c0, c1, c2⟩ := S.c3 4 rfl; obtain ⟨f0, f1, f2⟩ := S.f3 4 rfl
          go_simp; clear hS c0 f0 c1 f1 c2 f2
          have HP := S.put3 4 (.bool b5) (.slice p5 l5 K5) (.int .i64 e5) rfl rfl; have H := HP.2; replace S := HP.1; clear HP
          refine iw8 H n1 n2 n3 n4 n5 n6 n7 n8 ?_; clear n1 n2 n3 n4 n5 n6 n7 n8; intro n1 n2 n3 n4 n5 n6 n7 n8; replace HH := HH.trans H; clear H
          refine ho hKK (S.c3 3 rfl) fun hS => ?_
          generalize (((w28.setCell ⟨w21.heap.size, 0, none⟩ (.bool b5)).setCell ⟨w21.heap.size, 1, none⟩ (.slice p5 l5 K5)).setCell ⟨w21.heap.size, 2, none⟩ (.int .i64 e5)) = w29 at S n1 n2 n3 n4 n5 n6 n7 n8 HH hS ⊢
          clear hKK KK
          refine wpAnyH_done (by kernel_rfl) ?_ _
          go_wp2_with fail
          go_meet
          case rel => exact ⟨w26.heap.size, w21.heap.size, rfl, rfl, Su.of S [0, 1, 2, 3, 5, 4] rfl, HH⟩
      case rest =>
        obtain ⟨g14, g15, rfl, rfl, S, HH⟩ := hcut
        obtain ⟨w30, rfl⟩ : ∃ W : World, W = wc := ⟨_, rfl⟩
        refine iw8 HH n1 n2 n3 n4 n5 n6 n7 n8 ?_; clear n1 n2 n3 n4 n5 n6 n7 n8; intro n1 n2 n3 n4 n5 n6 n7 n8; clear HH; go_wp2_with fail; clear n1 n2 n3 n4
        go_loopw [53] (fun si wr => (si = .int .i64 0 ∧ IsNat wr (.slice p5 l5 K5) m5.natAbs ∧ IsNat wr (.slice p6 l6 K6) m6.natAbs ∧ IsNat wr (.slice p7 l7 K7) m7.natAbs ∧ IsNat wr (.slice p8 l8 K8) m8.natAbs ∧ ∃ b9 p9 l9 K9 m9 e9 b10 p10 l10 K10 m10 e10, Hid (negB m9 = b9) ∧ IsNat wr (.slice p9 l9 K9) m9.natAbs ∧ Hid (DyF m9 e9 (x * u) (L + M) (H + I)) ∧ Hid (negB m10 = b10) ∧ IsNat wr (.slice p10 l10 K10) m10.natAbs ∧ Hid (DyF m10 e10 (x * u) (L + M) (H + I)) ∧ Su w wr [(w.heap.size, 29, [.bool b1, .slice p1 l1 K1, .int .i64 e1, .bool b2, .slice p2 l2 K2, .int .i64 e2]), (w.heap.size + 1, 29, [.bool b3, .slice p3 l3 K3, .int .i64 e3, .bool b4, .slice p4 l4 K4, .int .i64 e4]), (w.heap.size + 1 + 1, 29, [.bool false, .slice none 0 0, .int .i64 0, .bool false, .slice none 0 0, .int .i64 0]), (w.heap.size + 1 + 1 + 1, 103, [.bool b5, .slice p5 l5 K5, .int .i64 e5, .bool b6, .slice p6 l6 K6, .int .i64 e6, .bool b7, .slice p7 l7 K7, .int .i64 e7, .bool b8, .slice p8 l8 K8, .int .i64 e8]), (g14, 27, [.bool b9, .slice p9 l9 K9, .int .i64 e9]), (g15, 27, [.bool b10, .slice p10 l10 K10, .int .i64 e10])]) ∨ (si = .int .i64 1 ∧ IsNat wr (.slice p5 l5 K5) m5.natAbs ∧ IsNat wr (.slice p6 l6 K6) m6.natAbs ∧ IsNat wr (.slice p7 l7 K7) m7.natAbs ∧ IsNat wr (.slice p8 l8 K8) m8.natAbs ∧ ∃ b9 p9 l9 K9 m9 e9 b10 p10 l10 K10 m10 e10, Hid (negB m9 = b9) ∧ IsNat wr (.slice p9 l9 K9) m9.natAbs ∧ Hid (DyF m9 e9 (min2 (x * u) (x * v)) (L + M) (H + I)) ∧ Hid (negB m10 = b10) ∧ IsNat wr (.slice p10 l10 K10) m10.natAbs ∧ Hid (DyF m10 e10 (max2 (x * u) (x * v)) (L + M) (H + I)) ∧ Su w wr [(w.heap.size, 29, [.bool b1, .slice p1 l1 K1, .int .i64 e1, .bool b2, .slice p2 l2 K2, .int .i64 e2]), (w.heap.size + 1, 29, [.bool b3, .slice p3 l3 K3, .int .i64 e3, .bool b4, .slice p4 l4 K4, .int .i64 e4]), (w.heap.size + 1 + 1, 29, [.bool false, .slice none 0 0, .int .i64 0, .bool false, .slice none 0 0, .int .i64 0]), (w.heap.size + 1 + 1 + 1, 103, [.bool b5, .slice p5 l5 K5, .int .i64 e5, .bool b6, .slice p6 l6 K6, .int .i64 e6, .bool b7, .slice p7 l7 K7, .int .i64 e7, .bool b8, .slice p8 l8 K8, .int .i64 e8]), (g14, 27, [.bool b9, .slice p9 l9 K9, .int .i64 e9]), (g15, 27, [.bool b10, .slice p10 l10 K10, .int .i64 e10])]) ∨ (si = .int .i64 2 ∧ IsNat wr (.slice p5 l5 K5) m5.natAbs ∧ IsNat wr (.slice p6 l6 K6) m6.natAbs ∧ IsNat wr (.slice p7 l7 K7) m7.natAbs ∧ IsNat wr (.slice p8 l8 K8) m8.natAbs ∧ ∃ b9 p9 l9 K9 m9 e9 b10 p10 l10 K10 m10 e10, Hid (negB m9 = b9) ∧ IsNat wr (.slice p9 l9 K9) m9.natAbs ∧ Hid (DyF m9 e9 (min2 (min2 (x * u) (x * v)) (y * u)) (L + M) (H + I)) ∧ Hid (negB m10 = b10) ∧ IsNat wr (.slice p10 l10 K10) m10.natAbs ∧ Hid (DyF m10 e10 (max2 (max2 (x * u) (x * v)) (y * u)) (L + M) (H + I)) ∧ Su w wr [(w.heap.size, 29, [.bool b1, .slice p1 l1 K1, .int .i64 e1, .bool b2, .slice p2 l2 K2, .int .i64 e2]), (w.heap.size + 1, 29, [.bool b3, .slice p3 l3 K3, .int .i64 e3, .bool b4, .slice p4 l4 K4, .int .i64 e4]), (w.heap.size + 1 + 1, 29, [.bool false, .slice none 0 0, .int .i64 0, .bool false, .slice none 0 0, .int .i64 0]), (w.heap.size + 1 + 1 + 1, 103, [.bool b5, .slice p5 l5 K5, .int .i64 e5, .bool b6, .slice p6 l6 K6, .int .i64 e6, .bool b7, .slice p7 l7 K7, .int .i64 e7, .bool b8, .slice p8 l8 K8, .int .i64 e8]), (g14, 27, [.bool b9, .slice p9 l9 K9, .int .i64 e9]), (g15, 27, [.bool b10, .slice p10 l10 K10, .int .i64 e10])]) ∨ (si = .int .i64 3 ∧ IsNat wr (.slice p5 l5 K5) m5.natAbs ∧ IsNat wr (.slice p6 l6 K6) m6.natAbs ∧ IsNat wr (.slice p7 l7 K7) m7.natAbs ∧ IsNat wr (.slice p8 l8 K8) m8.natAbs ∧ ∃ b9 p9 l9 K9 m9 e9 b10 p10 l10 K10 m10 e10, Hid (negB m9 = b9) ∧ IsNat wr (.slice p9 l9 K9) m9.natAbs ∧ Hid (DyF m9 e9 (min2 (min2 (min2 (x * u) (x * v)) (y * u)) (y * v)) (L + M) (H + I)) ∧ Hid (negB m10 = b10) ∧ IsNat wr (.slice p10 l10 K10) m10.natAbs ∧ Hid (DyF m10 e10 (max2 (max2 (max2 (x * u) (x * v)) (y * u)) (y * v)) (L + M) (H + I)) ∧ Su w wr [(w.heap.size, 29, [.bool b1, .slice p1 l1 K1, .int .i64 e1, .bool b2, .slice p2 l2 K2, .int .i64 e2]), (w.heap.size + 1, 29, [.bool b3, .slice p3 l3 K3, .int .i64 e3, .bool b4, .slice p4 l4 K4, .int .i64 e4]), (w.heap.size + 1 + 1, 29, [.bool false, .slice none 0 0, .int .i64 0, .bool false, .slice none 0 0, .int .i64 0]), (w.heap.size + 1 + 1 + 1, 103, [.bool b5, .slice p5 l5 K5, .int .i64 e5, .bool b6, .slice p6 l6 K6, .int .i64 e6, .bool b7, .slice p7 l7 K7, .int .i64 e7, .bool b8, .slice p8 l8 K8, .int .i64 e8]), (g14, 27, [.bool b9, .slice p9 l9 K9, .int .i64 e9]), (g15, 27, [.bool b10, .slice p10 l10 K10, .int .i64 e10])])) (fun si _ => 3 - (intOf si).toNat)
        case atStart => exact .inl ⟨rfl, n5, n6, n7, n8, b5, p5, l5, K5, m5, e5, b5, p5, l5, K5, m5, e5, h5, n5, d5, h5, n5, d5, S⟩
        case round =>
          clear n5 n6 n7 n8 S
          rcases hrel with ⟨rfl, n5, n6, n7, n8, b9, p9, l9, K9, m9, e9, b10, p10, l10, K10, m10, e10, h9, n9, d9, h10, n10, d10, S⟩ | ⟨rfl, n5, n6, n7, n8, b9, p9, l9, K9, m9, e9, b10, p10, l10, K10, m10, e10, h9, n9, d9, h10, n10, d10, S⟩ | ⟨rfl, n5, n6, n7, n8, b9, p9, l9, K9, m9, e9, b10, p10, l10, K10, m10, e10, h9, n9, d9, h10, n10, d10, S⟩ | ⟨rfl, n5, n6, n7, n8, b9, p9, l9, K9, m9, e9, b10, p10, l10, K10, m10, e10, h9, n9, d9, h10, n10, d10, S⟩
          ·
            obtain ⟨c3_0, c3_1, c3_2, c3_3, c3_4, c3_5⟩ := S.c6 3 rfl; have c3_6 := S.c 3 6 rfl rfl; have c3_7 := S.c 3 7 rfl rfl; have c3_8 := S.c 3 8 rfl rfl; have c3_9 := S.c 3 9 rfl rfl; have c3_10 := S.c 3 10 rfl rfl; have c3_11 := S.c 3 11 rfl rfl
            have H := S.hnew 27 [.bool b6, .slice p6 l6 K6, .int .i64 e6]
            replace S := S.al 27 [.bool b6, .slice p6 l6 K6, .int .i64 e6] (wr.heap.size)
            refine iv6 H n5 n6 n7 n8 n9 n10 ?_; clear n5 n6 n7 n8 n9 n10; intro n5 n6 n7 n8 n9 n10
            clear H
            go_upto_region 18 with fail
            clear c3_0 c3_1 c3_2 c3_3 c3_4 c3_5 c3_6 c3_7 c3_8 c3_9 c3_10 c3_11
            generalize (wr.alloc (.cells #[.bool b6, .slice p6 l6 K6, .int .i64 e6] 27)) = w61 at S n5 n6 n7 n8 n9 n10 ⊢
            have HH := (Hold.drew w61).to32
            refine iw6 HH n5 n6 n7 n8 n9 n10 ?_; clear n5 n6 n7 n8 n9 n10; intro n5 n6 n7 n8 n9 n10
            replace S := S.drew
            refine wp_region_held_drew (S := fun W => W.cell? ⟨wr.heap.size, 0, none⟩ = some (.bool b6) ∧ W.cell? ⟨wr.heap.size, 1, none⟩ = some (.slice p6 l6 K6) ∧ W.cell? ⟨wr.heap.size, 2, none⟩ = some (.int .i64 e6)) (by kernel_rfl) (S.c3 6 rfl) (fun hS => ?_)
            generalize w61.drew = w62 at S n5 n6 n7 n8 n9 n10 HH hS ⊢
            refine tk 1 hS ?_
            refine tk 4 hS ?_
            refine wpAnyH_ready (rs := [0, 3]) (by kernel_rfl) (by simp) (AllReadyH.cons (opOf rfl) (fun KK hKK => ?_) (AllReadyH.cons (opOf rfl) (fun KK hKK => ?_) AllReadyH.nil))
            ·
              obtain ⟨c4_0, c4_1, c4_2⟩ := S.c3 4 rfl; go_simp; clear c4_0 c4_1 c4_2
              refine ho hKK hS fun hS => ?_
              clear hKK KK
              refine wpAnyH_ready (rs := [2, 3]) (by kernel_rfl) (by simp) (AllReadyH.cons (opOf rfl) (fun KK hKK => ?_) (AllReadyH.cons (opOf rfl) (fun KK hKK => ?_) AllReadyH.nil))
              ·
                go_simp; clear hS
                refine (S.call (dmin_any ⟨b9, p9, l9, K9, m9, e9, rfl, h9, n9, d9⟩ ⟨b6, p6, l6, K6, m6, e6, rfl, h6, n6, d6⟩ HK.out.1)).mono ?_
                clear S
                rintro e w63 ⟨⟨_, rfl, b11, p11, l11, K11, m11, e11, rfl, h11, n11, d11⟩, S, H⟩
                refine iv6 H n5 n6 n7 n8 n9 n10 ?_; clear n5 n6 n7 n8 n9 n10; intro n5 n6 n7 n8 n9 n10; replace HH := HH.trans H.to32; clear H
                go_wp2_with fail
                refine ho hKK (S.c3 6 rfl) fun hS => ?_
                clear hKK KK
                refine rd 3 fun KK hKK => ?_
                obtain ⟨c5_0, c5_1, c5_2⟩ := S.c3 5 rfl; go_simp; clear c5_0 c5_1 c5_2
                refine ho hKK hS fun hS => ?_
                clear hKK KK
                refine rd 5 fun KK hKK => ?_
                go_simp; clear hS
                refine (S.call (dmax_any ⟨b10, p10, l10, K10, m10, e10, rfl, h10, n10, d10⟩ ⟨b6, p6, l6, K6, m6, e6, rfl, h6, n6, d6⟩ HK.out.1)).mono ?_
                clear S
                rintro e w64 ⟨⟨_, rfl, b12, p12, l12, K12, m12, e12, rfl, h12, n12, d12⟩, S, H⟩
                refine iv7 H n5 n6 n7 n8 n9 n10 n11 ?_; clear n5 n6 n7 n8 n9 n10 n11; intro n5 n6 n7 n8 n9 n10 n11; replace HH := HH.trans H.to32; clear H
                go_wp2_with fail
                refine ho hKK (S.c3 6 rfl) fun hS => ?_
                clear hKK KK
                refine rd 6 fun KK hKK => ?_
                obtain ⟨c0, c1, c2⟩ := S.c3 4 rfl; obtain ⟨f0, f1, f2⟩ := S.f3 4 rfl
                go_simp; clear hS c0 f0 c1 f1 c2 f2
                have HP := S.put3 4 (.bool b11) (.slice p11 l11 K11) (.int .i64 e11) rfl rfl; have H := HP.2; replace S := HP.1; clear HP
                refine iw8 H n5 n6 n7 n8 n9 n10 n11 n12 ?_; clear n5 n6 n7 n8 n9 n10 n11 n12; intro n5 n6 n7 n8 n9 n10 n11 n12; replace HH := HH.trans H; clear H
                refine ho hKK (S.c3 6 rfl) fun hS => ?_
                generalize (((w64.setCell ⟨g14, 0, none⟩ (.bool b11)).setCell ⟨g14, 1, none⟩ (.slice p11 l11 K11)).setCell ⟨g14, 2, none⟩ (.int .i64 e11)) = w65 at S n5 n6 n7 n8 n9 n10 n11 n12 HH hS ⊢
                clear hKK KK
                refine rd 7 fun KK hKK => ?_
                obtain ⟨c0, c1, c2⟩ := S.c3 5 rfl; obtain ⟨f0, f1, f2⟩ := S.f3 5 rfl
                go_simp; clear hS c0 f0 c1 f1 c2 f2
                have HP := S.put3 5 (.bool b12) (.slice p12 l12 K12) (.int .i64 e12) rfl rfl; have H := HP.2; replace S := HP.1; clear HP
                refine iw8 H n5 n6 n7 n8 n9 n10 n11 n12 ?_; clear n5 n6 n7 n8 n9 n10 n11 n12; intro n5 n6 n7 n8 n9 n10 n11 n12; replace HH := HH.trans H; clear H
                refine ho hKK (S.c3 6 rfl) fun hS => ?_
                generalize (((w65.setCell ⟨g15, 0, none⟩ (.bool b12)).setCell ⟨g15, 1, none⟩ (.slice p12 l12 K12)).setCell ⟨g15, 2, none⟩ (.int .i64 e12)) = w66 at S n5 n6 n7 n8 n9 n10 n11 n12 HH hS ⊢
                clear hKK KK
                refine wpAnyH_done (by kernel_rfl) ?_ _
                clear hS HH; go_wp2_with fail
                replace S := S.take 6 (L := [(w.heap.size, 29, [.bool b1, .slice p1 l1 K1, .int .i64 e1, .bool b2, .slice p2 l2 K2, .int .i64 e2]), (w.heap.size + 1, 29, [.bool b3, .slice p3 l3 K3, .int .i64 e3, .bool b4, .slice p4 l4 K4, .int .i64 e4]), (w.heap.size + 1 + 1, 29, [.bool false, .slice none 0 0, .int .i64 0, .bool false, .slice none 0 0, .int .i64 0]), (w.heap.size + 1 + 1 + 1, 103, [.bool b5, .slice p5 l5 K5, .int .i64 e5, .bool b6, .slice p6 l6 K6, .int .i64 e6, .bool b7, .slice p7 l7 K7, .int .i64 e7, .bool b8, .slice p8 l8 K8, .int .i64 e8]), (g14, 27, [.bool b11, .slice p11 l11 K11, .int .i64 e11]), (g15, 27, [.bool b12, .slice p12 l12 K12, .int .i64 e12])]) rfl
                go_roundw
                case rel => exact .inr (.inl ⟨rfl, n5, n6, n7, n8, b11, p11, l11, K11, m11, e11, b12, p12, l12, K12, m12, e12, h11, n11, d11, h12, n12, d12, S⟩)
                case measure => simp [intOf]
              ·
                obtain ⟨c5_0, c5_1, c5_2⟩ := S.c3 5 rfl; go_simp; clear c5_0 c5_1 c5_2
                refine ho hKK hS fun hS => ?_
                clear hKK KK
                refine rd 2 fun KK hKK => ?_
                go_simp; clear hS
                refine (S.call (dmin_any ⟨b9, p9, l9, K9, m9, e9, rfl, h9, n9, d9⟩ ⟨b6, p6, l6, K6, m6, e6, rfl, h6, n6, d6⟩ HK.out.1)).mono ?_
                clear S
                rintro e w67 ⟨⟨_, rfl, b11, p11, l11, K11, m11, e11, rfl, h11, n11, d11⟩, S, H⟩
                refine iv6 H n5 n6 n7 n8 n9 n10 ?_; clear n5 n6 n7 n8 n9 n10; intro n5 n6 n7 n8 n9 n10; replace HH := HH.trans H.to32; clear H
                go_wp2_with fail
                refine ho hKK (S.c3 6 rfl) fun hS => ?_
                clear hKK KK
                refine rd 5 fun KK hKK => ?_
                go_simp; clear hS
                refine (S.call (dmax_any ⟨b10, p10, l10, K10, m10, e10, rfl, h10, n10, d10⟩ ⟨b6, p6, l6, K6, m6, e6, rfl, h6, n6, d6⟩ HK.out.1)).mono ?_
                clear S
                rintro e w68 ⟨⟨_, rfl, b12, p12, l12, K12, m12, e12, rfl, h12, n12, d12⟩, S, H⟩
                refine iv7 H n5 n6 n7 n8 n9 n10 n11 ?_; clear n5 n6 n7 n8 n9 n10 n11; intro n5 n6 n7 n8 n9 n10 n11; replace HH := HH.trans H.to32; clear H
                go_wp2_with fail
                refine ho hKK (S.c3 6 rfl) fun hS => ?_
                clear hKK KK
                refine rd 6 fun KK hKK => ?_
                obtain ⟨c0, c1, c2⟩ := S.c3 4 rfl; obtain ⟨f0, f1, f2⟩ := S.f3 4 rfl
                go_simp; clear hS c0 f0 c1 f1 c2 f2
                have HP := S.put3 4 (.bool b11) (.slice p11 l11 K11) (.int .i64 e11) rfl rfl; have H := HP.2; replace S := HP.1; clear HP
                refine iw8 H n5 n6 n7 n8 n9 n10 n11 n12 ?_; clear n5 n6 n7 n8 n9 n10 n11 n12; intro n5 n6 n7 n8 n9 n10 n11 n12; replace HH := HH.trans H; clear H
                refine ho hKK (S.c3 6 rfl) fun hS => ?_
                generalize (((w68.setCell ⟨g14, 0, none⟩ (.bool b11)).setCell ⟨g14, 1, none⟩ (.slice p11 l11 K11)).setCell ⟨g14, 2, none⟩ (.int .i64 e11)) = w69 at S n5 n6 n7 n8 n9 n10 n11 n12 HH hS ⊢
                clear hKK KK
                refine rd 7 fun KK hKK => ?_
                obtain ⟨c0, c1, c2⟩ := S.c3 5 rfl; obtain ⟨f0, f1, f2⟩ := S.f3 5 rfl
                go_simp; clear hS c0 f0 c1 f1 c2 f2
                have HP := S.put3 5 (.bool b12) (.slice p12 l12 K12) (.int .i64 e12) rfl rfl; have H := HP.2; replace S := HP.1; clear HP
                refine iw8 H n5 n6 n7 n8 n9 n10 n11 n12 ?_; clear n5 n6 n7 n8 n9 n10 n11 n12; intro n5 n6 n7 n8 n9 n10 n11 n12; replace HH := HH.trans H; clear H
                refine ho hKK (S.c3 6 rfl) fun hS => ?_
                generalize (((w69.setCell ⟨g15, 0, none⟩ (.bool b12)).setCell ⟨g15, 1, none⟩ (.slice p12 l12 K12)).setCell ⟨g15, 2, none⟩ (.int .i64 e12)) = w70 at S n5 n6 n7 n8 n9 n10 n11 n12 HH hS ⊢
                clear hKK KK
                refine wpAnyH_done (by kernel_rfl) ?_ _
                clear hS HH; go_wp2_with fail
                replace S := S.take 6 (L := [(w.heap.size, 29, [.bool b1, .slice p1 l1 K1, .int .i64 e1, .bool b2, .slice p2 l2 K2, .int .i64 e2]), (w.heap.size + 1, 29, [.bool b3, .slice p3 l3 K3, .int .i64 e3, .bool b4, .slice p4 l4 K4, .int .i64 e4]), (w.heap.size + 1 + 1, 29, [.bool false, .slice none 0 0, .int .i64 0, .bool false, .slice none 0 0, .int .i64 0]), (w.heap.size + 1 + 1 + 1, 103, [.bool b5, .slice p5 l5 K5, .int .i64 e5, .bool b6, .slice p6 l6 K6, .int .i64 e6, .bool b7, .slice p7 l7 K7, .int .i64 e7, .bool b8, .slice p8 l8 K8, .int .i64 e8]), (g14, 27, [.bool b11, .slice p11 l11 K11, .int .i64 e11]), (g15, 27, [.bool b12, .slice p12 l12 K12, .int .i64 e12])]) rfl
                go_roundw
                case rel => exact .inr (.inl ⟨rfl, n5, n6, n7, n8, b11, p11, l11, K11, m11, e11, b12, p12, l12, K12, m12, e12, h11, n11, d11, h12, n12, d12, S⟩)
                case measure => simp [intOf]
            ·
              obtain ⟨c5_0, c5_1, c5_2⟩ := S.c3 5 rfl; go_simp; clear c5_0 c5_1 c5_2
              refine ho hKK hS fun hS => ?_
              clear hKK KK
              refine rd 0 fun KK hKK => ?_
              obtain ⟨c4_0, c4_1, c4_2⟩ := S.c3 4 rfl; go_simp; clear c4_0 c4_1 c4_2
              refine ho hKK hS fun hS => ?_
              clear hKK KK
              refine rd 2 fun KK hKK => ?_
              go_simp; clear hS
              refine (S.call (dmin_any ⟨b9, p9, l9, K9, m9, e9, rfl, h9, n9, d9⟩ ⟨b6, p6, l6, K6, m6, e6, rfl, h6, n6, d6⟩ HK.out.1)).mono ?_
              clear S
              rintro e w71 ⟨⟨_, rfl, b11, p11, l11, K11, m11, e11, rfl, h11, n11, d11⟩, S, H⟩
              refine iv6 H n5 n6 n7 n8 n9 n10 ?_; clear n5 n6 n7 n8 n9 n10; intro n5 n6 n7 n8 n9 n10; replace HH := HH.trans H.to32; clear H
              go_wp2_with fail
              refine ho hKK (S.c3 6 rfl) fun hS => ?_
              clear hKK KK
              refine rd 5 fun KK hKK => ?_
              go_simp; clear hS
              refine (S.call (dmax_any ⟨b10, p10, l10, K10, m10, e10, rfl, h10, n10, d10⟩ ⟨b6, p6, l6, K6, m6, e6, rfl, h6, n6, d6⟩ HK.out.1)).mono ?_
              clear S
              rintro e w72 ⟨⟨_, rfl, b12, p12, l12, K12, m12, e12, rfl, h12, n12, d12⟩, S, H⟩
              refine iv7 H n5 n6 n7 n8 n9 n10 n11 ?_; clear n5 n6 n7 n8 n9 n10 n11; intro n5 n6 n7 n8 n9 n10 n11; replace HH := HH.trans H.to32; clear H
              go_wp2_with fail
              refine ho hKK (S.c3 6 rfl) fun hS => ?_
              clear hKK KK
              refine rd 6 fun KK hKK => ?_
              obtain ⟨c0, c1, c2⟩ := S.c3 4 rfl; obtain ⟨f0, f1, f2⟩ := S.f3 4 rfl
              go_simp; clear hS c0 f0 c1 f1 c2 f2
              have HP := S.put3 4 (.bool b11) (.slice p11 l11 K11) (.int .i64 e11) rfl rfl; have H := HP.2; replace S := HP.1; clear HP
              refine iw8 H n5 n6 n7 n8 n9 n10 n11 n12 ?_; clear n5 n6 n7 n8 n9 n10 n11 n12; intro n5 n6 n7 n8 n9 n10 n11 n12; replace HH := HH.trans H; clear H
              refine ho hKK (S.c3 6 rfl) fun hS => ?_
              generalize (((w72.setCell ⟨g14, 0, none⟩ (.bool b11)).setCell ⟨g14, 1, none⟩ (.slice p11 l11 K11)).setCell ⟨g14, 2, none⟩ (.int .i64 e11)) = w73 at S n5 n6 n7 n8 n9 n10 n11 n12 HH hS ⊢
              clear hKK KK
              refine rd 7 fun KK hKK => ?_
              obtain ⟨c0, c1, c2⟩ := S.c3 5 rfl; obtain ⟨f0, f1, f2⟩ := S.f3 5 rfl
              go_simp; clear hS c0 f0 c1 f1 c2 f2
              have HP := S.put3 5 (.bool b12) (.slice p12 l12 K12) (.int .i64 e12) rfl rfl; have H := HP.2; replace S := HP.1; clear HP
              refine iw8 H n5 n6 n7 n8 n9 n10 n11 n12 ?_; clear n5 n6 n7 n8 n9 n10 n11 n12; intro n5 n6 n7 n8 n9 n10 n11 n12; replace HH := HH.trans H; clear H
              refine ho hKK (S.c3 6 rfl) fun hS => ?_
              generalize (((w73.setCell ⟨g15, 0, none⟩ (.bool b12)).setCell ⟨g15, 1, none⟩ (.slice p12 l12 K12)).setCell ⟨g15, 2, none⟩ (.int .i64 e12)) = w74 at S n5 n6 n7 n8 n9 n10 n11 n12 HH hS ⊢
              clear hKK KK
              refine wpAnyH_done (by kernel_rfl) ?_ _
              clear hS HH; go_wp2_with fail
              replace S := S.take 6 (L := [(w.heap.size, 29, [.bool b1, .slice p1 l1 K1, .int .i64 e1, .bool b2, .slice p2 l2 K2, .int .i64 e2]), (w.heap.size + 1, 29, [.bool b3, .slice p3 l3 K3, .int .i64 e3, .bool b4, .slice p4 l4 K4, .int .i64 e4]), (w.heap.size + 1 + 1, 29, [.bool false, .slice none 0 0, .int .i64 0, .bool false, .slice none 0 0, .int .i64 0]), (w.heap.size + 1 + 1 + 1, 103, [.bool b5, .slice p5 l5 K5, .int .i64 e5, .bool b6, .slice p6 l6 K6, .int .i64 e6, .bool b7, .slice p7 l7 K7, .int .i64 e7, .bool b8, .slice p8 l8 K8, .int .i64 e8]), (g14, 27, [.bool b11, .slice p11 l11 K11, .int .i64 e11]), (g15, 27, [.bool b12, .slice p12 l12 K12, .int .i64 e12])]) rfl
              go_roundw
              case rel => exact .inr (.inl ⟨rfl, n5, n6, n7, n8, b11, p11, l11, K11, m11, e11, b12, p12, l12, K12, m12, e12, h11, n11, d11, h12, n12, d12, S⟩)
              case measure => simp [intOf]
          ·
            obtain ⟨c3_0, c3_1, c3_2, c3_3, c3_4, c3_5⟩ := S.c6 3 rfl; have c3_6 := S.c 3 6 rfl rfl; have c3_7 := S.c 3 7 rfl rfl; have c3_8 := S.c 3 8 rfl rfl; have c3_9 := S.c 3 9 rfl rfl; have c3_10 := S.c 3 10 rfl rfl; have c3_11 := S.c 3 11 rfl rfl
            have H := S.hnew 27 [.bool b7, .slice p7 l7 K7, .int .i64 e7]
            replace S := S.al 27 [.bool b7, .slice p7 l7 K7, .int .i64 e7] (wr.heap.size)
            refine iv6 H n5 n6 n7 n8 n9 n10 ?_; clear n5 n6 n7 n8 n9 n10; intro n5 n6 n7 n8 n9 n10
            clear H
            go_upto_region 18 with fail
            clear c3_0 c3_1 c3_2 c3_3 c3_4 c3_5 c3_6 c3_7 c3_8 c3_9 c3_10 c3_11
            generalize (wr.alloc (.cells #[.bool b7, .slice p7 l7 K7, .int .i64 e7] 27)) = w61 at S n5 n6 n7 n8 n9 n10 ⊢
            have HH := (Hold.drew w61).to32
            refine iw6 HH n5 n6 n7 n8 n9 n10 ?_; clear n5 n6 n7 n8 n9 n10; intro n5 n6 n7 n8 n9 n10
            replace S := S.drew
            refine wp_region_held_drew (S := fun W => W.cell? ⟨wr.heap.size, 0, none⟩ = some (.bool b7) ∧ W.cell? ⟨wr.heap.size, 1, none⟩ = some (.slice p7 l7 K7) ∧ W.cell? ⟨wr.heap.size, 2, none⟩ = some (.int .i64 e7)) (by kernel_rfl) (S.c3 6 rfl) (fun hS => ?_)
            generalize w61.drew = w62 at S n5 n6 n7 n8 n9 n10 HH hS ⊢
            refine tk 1 hS ?_
            refine tk 4 hS ?_
            refine wpAnyH_ready (rs := [0, 3]) (by kernel_rfl) (by simp) (AllReadyH.cons (opOf rfl) (fun KK hKK => ?_) (AllReadyH.cons (opOf rfl) (fun KK hKK => ?_) AllReadyH.nil))
            ·
              obtain ⟨c4_0, c4_1, c4_2⟩ := S.c3 4 rfl; go_simp; clear c4_0 c4_1 c4_2
              refine ho hKK hS fun hS => ?_
              clear hKK KK
              refine wpAnyH_ready (rs := [2, 3]) (by kernel_rfl) (by simp) (AllReadyH.cons (opOf rfl) (fun KK hKK => ?_) (AllReadyH.cons (opOf rfl) (fun KK hKK => ?_) AllReadyH.nil))
              ·
                go_simp; clear hS
                refine (S.call (dmin_any ⟨b9, p9, l9, K9, m9, e9, rfl, h9, n9, d9⟩ ⟨b7, p7, l7, K7, m7, e7, rfl, h7, n7, d7⟩ HK.out.1)).mono ?_
                clear S
                rintro e w63 ⟨⟨_, rfl, b11, p11, l11, K11, m11, e11, rfl, h11, n11, d11⟩, S, H⟩
                refine iv6 H n5 n6 n7 n8 n9 n10 ?_; clear n5 n6 n7 n8 n9 n10; intro n5 n6 n7 n8 n9 n10; replace HH := HH.trans H.to32; clear H
                go_wp2_with fail
                refine ho hKK (S.c3 6 rfl) fun hS => ?_
                clear hKK KK
                refine rd 3 fun KK hKK => ?_
                obtain ⟨c5_0, c5_1, c5_2⟩ := S.c3 5 rfl; go_simp; clear c5_0 c5_1 c5_2
                refine ho hKK hS fun hS => ?_
                clear hKK KK
                refine rd 5 fun KK hKK => ?_
                go_simp; clear hS
                refine (S.call (dmax_any ⟨b10, p10, l10, K10, m10, e10, rfl, h10, n10, d10⟩ ⟨b7, p7, l7, K7, m7, e7, rfl, h7, n7, d7⟩ HK.out.1)).mono ?_
                clear S
                rintro e w64 ⟨⟨_, rfl, b12, p12, l12, K12, m12, e12, rfl, h12, n12, d12⟩, S, H⟩
                refine iv7 H n5 n6 n7 n8 n9 n10 n11 ?_; clear n5 n6 n7 n8 n9 n10 n11; intro n5 n6 n7 n8 n9 n10 n11; replace HH := HH.trans H.to32; clear H
                go_wp2_with fail
                refine ho hKK (S.c3 6 rfl) fun hS => ?_
                clear hKK KK
                refine rd 6 fun KK hKK => ?_
                obtain ⟨c0, c1, c2⟩ := S.c3 4 rfl; obtain ⟨f0, f1, f2⟩ := S.f3 4 rfl
                go_simp; clear hS c0 f0 c1 f1 c2 f2
                have HP := S.put3 4 (.bool b11) (.slice p11 l11 K11) (.int .i64 e11) rfl rfl; have H := HP.2; replace S := HP.1; clear HP
                refine iw8 H n5 n6 n7 n8 n9 n10 n11 n12 ?_; clear n5 n6 n7 n8 n9 n10 n11 n12; intro n5 n6 n7 n8 n9 n10 n11 n12; replace HH := HH.trans H; clear H
                refine ho hKK (S.c3 6 rfl) fun hS => ?_
                generalize (((w64.setCell ⟨g14, 0, none⟩ (.bool b11)).setCell ⟨g14, 1, none⟩ (.slice p11 l11 K11)).setCell ⟨g14, 2, none⟩ (.int .i64 e11)) = w65 at S n5 n6 n7 n8 n9 n10 n11 n12 HH hS ⊢
                clear hKK KK
                refine rd 7 fun KK hKK => ?_
                obtain ⟨c0, c1, c2⟩ := S.c3 5 rfl; obtain ⟨f0, f1, f2⟩ := S.f3 5 rfl
                go_simp; clear hS c0 f0 c1 f1 c2 f2
                have HP := S.put3 5 (.bool b12) (.slice p12 l12 K12) (.int .i64 e12) rfl rfl; have H := HP.2; replace S := HP.1; clear HP
                refine iw8 H n5 n6 n7 n8 n9 n10 n11 n12 ?_; clear n5 n6 n7 n8 n9 n10 n11 n12; intro n5 n6 n7 n8 n9 n10 n11 n12; replace HH := HH.trans H; clear H
                refine ho hKK (S.c3 6 rfl) fun hS => ?_
                generalize (((w65.setCell ⟨g15, 0, none⟩ (.bool b12)).setCell ⟨g15, 1, none⟩ (.slice p12 l12 K12)).setCell ⟨g15, 2, none⟩ (.int .i64 e12)) = w66 at S n5 n6 n7 n8 n9 n10 n11 n12 HH hS ⊢
                clear hKK KK
                refine wpAnyH_done (by kernel_rfl) ?_ _
                clear hS HH; go_wp2_with fail
                replace S := S.take 6 (L := [(w.heap.size, 29, [.bool b1, .slice p1 l1 K1, .int .i64 e1, .bool b2, .slice p2 l2 K2, .int .i64 e2]), (w.heap.size + 1, 29, [.bool b3, .slice p3 l3 K3, .int .i64 e3, .bool b4, .slice p4 l4 K4, .int .i64 e4]), (w.heap.size + 1 + 1, 29, [.bool false, .slice none 0 0, .int .i64 0, .bool false, .slice none 0 0, .int .i64 0]), (w.heap.size + 1 + 1 + 1, 103, [.bool b5, .slice p5 l5 K5, .int .i64 e5, .bool b6, .slice p6 l6 K6, .int .i64 e6, .bool b7, .slice p7 l7 K7, .int .i64 e7, .bool b8, .slice p8 l8 K8, .int .i64 e8]), (g14, 27, [.bool b11, .slice p11 l11 K11, .int .i64 e11]), (g15, 27, [.bool b12, .slice p12 l12 K12, .int .i64 e12])]) rfl
                go_roundw
                case rel => exact .inr (.inr (.inl ⟨rfl, n5, n6, n7, n8, b11, p11, l11, K11, m11, e11, b12, p12, l12, K12, m12, e12, h11, n11, d11, h12, n12, d12, S⟩))
                case measure => simp [intOf]
              ·
                obtain ⟨c5_0, c5_1, c5_2⟩ := S.c3 5 rfl; go_simp; clear c5_0 c5_1 c5_2
                refine ho hKK hS fun hS => ?_
                clear hKK KK
                refine rd 2 fun KK hKK => ?_
                go_simp; clear hS
                refine (S.call (dmin_any ⟨b9, p9, l9, K9, m9, e9, rfl, h9, n9, d9⟩ ⟨b7, p7, l7, K7, m7, e7, rfl, h7, n7, d7⟩ HK.out.1)).mono ?_
                clear S
                rintro e w67 ⟨⟨_, rfl, b11, p11, l11, K11, m11, e11, rfl, h11, n11, d11⟩, S, H⟩
                refine iv6 H n5 n6 n7 n8 n9 n10 ?_; clear n5 n6 n7 n8 n9 n10; intro n5 n6 n7 n8 n9 n10; replace HH := HH.trans H.to32; clear H
                go_wp2_with fail
                refine ho hKK (S.c3 6 rfl) fun hS => ?_
                clear hKK KK
                refine rd 5 fun KK hKK => ?_
                go_simp; clear hS
                refine (S.call (dmax_any ⟨b10, p10, l10, K10, m10, e10, rfl, h10, n10, d10⟩ ⟨b7, p7, l7, K7, m7, e7, rfl, h7, n7, d7⟩ HK.out.1)).mono ?_
                clear S
                rintro e w68 ⟨⟨_, rfl, b12, p12, l12, K12, m12, e12, rfl, h12, n12, d12⟩, S, H⟩
                refine iv7 H n5 n6 n7 n8 n9 n10 n11 ?_; clear n5 n6 n7 n8 n9 n10 n11; intro n5 n6 n7 n8 n9 n10 n11; replace HH := HH.trans H.to32; clear H
                go_wp2_with fail
                refine ho hKK (S.c3 6 rfl) fun hS => ?_
                clear hKK KK
                refine rd 6 fun KK hKK => ?_
                obtain ⟨c0, c1, c2⟩ := S.c3 4 rfl; obtain ⟨f0, f1, f2⟩ := S.f3 4 rfl
                go_simp; clear hS c0 f0 c1 f1 c2 f2
                have HP := S.put3 4 (.bool b11) (.slice p11 l11 K11) (.int .i64 e11) rfl rfl; have H := HP.2; replace S := HP.1; clear HP
                refine iw8 H n5 n6 n7 n8 n9 n10 n11 n12 ?_; clear n5 n6 n7 n8 n9 n10 n11 n12; intro n5 n6 n7 n8 n9 n10 n11 n12; replace HH := HH.trans H; clear H
                refine ho hKK (S.c3 6 rfl) fun hS => ?_
                generalize (((w68.setCell ⟨g14, 0, none⟩ (.bool b11)).setCell ⟨g14, 1, none⟩ (.slice p11 l11 K11)).setCell ⟨g14, 2, none⟩ (.int .i64 e11)) = w69 at S n5 n6 n7 n8 n9 n10 n11 n12 HH hS ⊢
                clear hKK KK
                refine rd 7 fun KK hKK => ?_
                obtain ⟨c0, c1, c2⟩ := S.c3 5 rfl; obtain ⟨f0, f1, f2⟩ := S.f3 5 rfl
                go_simp; clear hS c0 f0 c1 f1 c2 f2
                have HP := S.put3 5 (.bool b12) (.slice p12 l12 K12) (.int .i64 e12) rfl rfl; have H := HP.2; replace S := HP.1; clear HP
                refine iw8 H n5 n6 n7 n8 n9 n10 n11 n12 ?_; clear n5 n6 n7 n8 n9 n10 n11 n12; intro n5 n6 n7 n8 n9 n10 n11 n12; replace HH := HH.trans H; clear H
                refine ho hKK (S.c3 6 rfl) fun hS => ?_
                generalize (((w69.setCell ⟨g15, 0, none⟩ (.bool b12)).setCell ⟨g15, 1, none⟩ (.slice p12 l12 K12)).setCell ⟨g15, 2, none⟩ (.int .i64 e12)) = w70 at S n5 n6 n7 n8 n9 n10 n11 n12 HH hS ⊢
                clear hKK KK
                refine wpAnyH_done (by kernel_rfl) ?_ _
                clear hS HH; go_wp2_with fail
                replace S := S.take 6 (L := [(w.heap.size, 29, [.bool b1, .slice p1 l1 K1, .int .i64 e1, .bool b2, .slice p2 l2 K2, .int .i64 e2]), (w.heap.size + 1, 29, [.bool b3, .slice p3 l3 K3, .int .i64 e3, .bool b4, .slice p4 l4 K4, .int .i64 e4]), (w.heap.size + 1 + 1, 29, [.bool false, .slice none 0 0, .int .i64 0, .bool false, .slice none 0 0, .int .i64 0]), (w.heap.size + 1 + 1 + 1, 103, [.bool b5, .slice p5 l5 K5, .int .i64 e5, .bool b6, .slice p6 l6 K6, .int .i64 e6, .bool b7, .slice p7 l7 K7, .int .i64 e7, .bool b8, .slice p8 l8 K8, .int .i64 e8]), (g14, 27, [.bool b11, .slice p11 l11 K11, .int .i64 e11]), (g15, 27, [.bool b12, .slice p12 l12 K12, .int .i64 e12])]) rfl
                go_roundw
                case rel => exact .inr (.inr (.inl ⟨rfl, n5, n6, n7, n8, b11, p11, l11, K11, m11, e11, b12, p12, l12, K12, m12, e12, h11, n11, d11, h12, n12, d12, S⟩))
                case measure => simp [intOf]
            ·
              obtain ⟨c5_0, c5_1, c5_2⟩ := S.c3 5 rfl; go_simp; clear c5_0 c5_1 c5_2
              refine ho hKK hS fun hS => ?_
              clear hKK KK
              refine rd 0 fun KK hKK => ?_
              obtain ⟨c4_0, c4_1, c4_2⟩ := S.c3 4 rfl; go_simp; clear c4_0 c4_1 c4_2
              refine ho hKK hS fun hS => ?_
              clear hKK KK
              refine rd 2 fun KK hKK => ?_
              go_simp; clear hS
              refine (S.call (dmin_any ⟨b9, p9, l9, K9, m9, e9, rfl, h9, n9, d9⟩ ⟨b7, p7, l7, K7, m7, e7, rfl, h7, n7, d7⟩ HK.out.1)).mono ?_
              clear S
              rintro e w71 ⟨⟨_, rfl, b11, p11, l11, K11, m11, e11, rfl, h11, n11, d11⟩, S, H⟩
              refine iv6 H n5 n6 n7 n8 n9 n10 ?_; clear n5 n6 n7 n8 n9 n10; intro n5 n6 n7 n8 n9 n10; replace HH := HH.trans H.to32; clear H
              go_wp2_with fail
              refine ho hKK (S.c3 6 rfl) fun hS => ?_
              clear hKK KK
              refine rd 5 fun KK hKK => ?_
              go_simp; clear hS
              refine (S.call (dmax_any ⟨b10, p10, l10, K10, m10, e10, rfl, h10, n10, d10⟩ ⟨b7, p7, l7, K7, m7, e7, rfl, h7, n7, d7⟩ HK.out.1)).mono ?_
              clear S
              rintro e w72 ⟨⟨_, rfl, b12, p12, l12, K12, m12, e12, rfl, h12, n12, d12⟩, S, H⟩
              refine iv7 H n5 n6 n7 n8 n9 n10 n11 ?_; clear n5 n6 n7 n8 n9 n10 n11; intro n5 n6 n7 n8 n9 n10 n11; replace HH := HH.trans H.to32; clear H
              go_wp2_with fail
              refine ho hKK (S.c3 6 rfl) fun hS => ?_
              clear hKK KK
              refine rd 6 fun KK hKK => ?_
              obtain ⟨c0, c1, c2⟩ := S.c3 4 rfl; obtain ⟨f0, f1, f2⟩ := S.f3 4 rfl
              go_simp; clear hS c0 f0 c1 f1 c2 f2
              have HP := S.put3 4 (.bool b11) (.slice p11 l11 K11) (.int .i64 e11) rfl rfl; have H := HP.2; replace S := HP.1; clear HP
              refine iw8 H n5 n6 n7 n8 n9 n10 n11 n12 ?_; clear n5 n6 n7 n8 n9 n10 n11 n12; intro n5 n6 n7 n8 n9 n10 n11 n12; replace HH := HH.trans H; clear H
              refine ho hKK (S.c3 6 rfl) fun hS => ?_
              generalize (((w72.setCell ⟨g14, 0, none⟩ (.bool b11)).setCell ⟨g14, 1, none⟩ (.slice p11 l11 K11)).setCell ⟨g14, 2, none⟩ (.int .i64 e11)) = w73 at S n5 n6 n7 n8 n9 n10 n11 n12 HH hS ⊢
              clear hKK KK
              refine rd 7 fun KK hKK => ?_
              obtain ⟨c0, c1, c2⟩ := S.c3 5 rfl; obtain ⟨f0, f1, f2⟩ := S.f3 5 rfl
              go_simp; clear hS c0 f0 c1 f1 c2 f2
              have HP := S.put3 5 (.bool b12) (.slice p12 l12 K12) (.int .i64 e12) rfl rfl; have H := HP.2; replace S := HP.1; clear HP
              refine iw8 H n5 n6 n7 n8 n9 n10 n11 n12 ?_; clear n5 n6 n7 n8 n9 n10 n11 n12; intro n5 n6 n7 n8 n9 n10 n11 n12; replace HH := HH.trans H; clear H
              refine ho hKK (S.c3 6 rfl) fun hS => ?_
              generalize (((w73.setCell ⟨g15, 0, none⟩ (.bool b12)).setCell ⟨g15, 1, none⟩ (.slice p12 l12 K12)).setCell ⟨g15, 2, none⟩ (.int .i64 e12)) = w74 at S n5 n6 n7 n8 n9 n10 n11 n12 HH hS ⊢
              clear hKK KK
              refine wpAnyH_done (by kernel_rfl) ?_ _
              clear hS HH; go_wp2_with fail
              replace S := S.take 6 (L := [(w.heap.size, 29, [.bool b1, .slice p1 l1 K1, .int .i64 e1, .bool b2, .slice p2 l2 K2, .int .i64 e2]), (w.heap.size + 1, 29, [.bool b3, .slice p3 l3 K3, .int .i64 e3, .bool b4, .slice p4 l4 K4, .int .i64 e4]), (w.heap.size + 1 + 1, 29, [.bool false, .slice none 0 0, .int .i64 0, .bool false, .slice none 0 0, .int .i64 0]), (w.heap.size + 1 + 1 + 1, 103, [.bool b5, .slice p5 l5 K5, .int .i64 e5, .bool b6, .slice p6 l6 K6, .int .i64 e6, .bool b7, .slice p7 l7 K7, .int .i64 e7, .bool b8, .slice p8 l8 K8, .int .i64 e8]), (g14, 27, [.bool b11, .slice p11 l11 K11, .int .i64 e11]), (g15, 27, [.bool b12, .slice p12 l12 K12, .int .i64 e12])]) rfl
              go_roundw
              case rel => exact .inr (.inr (.inl ⟨rfl, n5, n6, n7, n8, b11, p11, l11, K11, m11, e11, b12, p12, l12, K12, m12, e12, h11, n11, d11, h12, n12, d12, S⟩))
              case measure => simp [intOf]
          ·
            obtain ⟨c3_0, c3_1, c3_2, c3_3, c3_4, c3_5⟩ := S.c6 3 rfl; have c3_6 := S.c 3 6 rfl rfl; have c3_7 := S.c 3 7 rfl rfl; have c3_8 := S.c 3 8 rfl rfl; have c3_9 := S.c 3 9 rfl rfl; have c3_10 := S.c 3 10 rfl rfl; have c3_11 := S.c 3 11 rfl rfl
            have H := S.hnew 27 [.bool b8, .slice p8 l8 K8, .int .i64 e8]
            replace S := S.al 27 [.bool b8, .slice p8 l8 K8, .int .i64 e8] (wr.heap.size)
            refine iv6 H n5 n6 n7 n8 n9 n10 ?_; clear n5 n6 n7 n8 n9 n10; intro n5 n6 n7 n8 n9 n10
            clear H
            go_upto_region 18 with fail
            clear c3_0 c3_1 c3_2 c3_3 c3_4 c3_5 c3_6 c3_7 c3_8 c3_9 c3_10 c3_11
            generalize (wr.alloc (.cells #[.bool b8, .slice p8 l8 K8, .int .i64 e8] 27)) = w61 at S n5 n6 n7 n8 n9 n10 ⊢
            have HH := (Hold.drew w61).to32
            refine iw6 HH n5 n6 n7 n8 n9 n10 ?_; clear n5 n6 n7 n8 n9 n10; intro n5 n6 n7 n8 n9 n10
            replace S := S.drew
            refine wp_region_held_drew (S := fun W => W.cell? ⟨wr.heap.size, 0, none⟩ = some (.bool b8) ∧ W.cell? ⟨wr.heap.size, 1, none⟩ = some (.slice p8 l8 K8) ∧ W.cell? ⟨wr.heap.size, 2, none⟩ = some (.int .i64 e8)) (by kernel_rfl) (S.c3 6 rfl) (fun hS => ?_)
            generalize w61.drew = w62 at S n5 n6 n7 n8 n9 n10 HH hS ⊢
            refine tk 1 hS ?_
            refine tk 4 hS ?_
            refine wpAnyH_ready (rs := [0, 3]) (by kernel_rfl) (by simp) (AllReadyH.cons (opOf rfl) (fun KK hKK => ?_) (AllReadyH.cons (opOf rfl) (fun KK hKK => ?_) AllReadyH.nil))
            ·
              obtain ⟨c4_0, c4_1, c4_2⟩ := S.c3 4 rfl; go_simp; clear c4_0 c4_1 c4_2
              refine ho hKK hS fun hS => ?_
              clear hKK KK
              refine wpAnyH_ready (rs := [2, 3]) (by kernel_rfl) (by simp) (AllReadyH.cons (opOf rfl) (fun KK hKK => ?_) (AllReadyH.cons (opOf rfl) (fun KK hKK => ?_) AllReadyH.nil))
              ·
                go_simp; clear hS
                refine (S.call (dmin_any ⟨b9, p9, l9, K9, m9, e9, rfl, h9, n9, d9⟩ ⟨b8, p8, l8, K8, m8, e8, rfl, h8, n8, d8⟩ HK.out.1)).mono ?_
                clear S
                rintro e w63 ⟨⟨_, rfl, b11, p11, l11, K11, m11, e11, rfl, h11, n11, d11⟩, S, H⟩
                refine iv6 H n5 n6 n7 n8 n9 n10 ?_; clear n5 n6 n7 n8 n9 n10; intro n5 n6 n7 n8 n9 n10; replace HH := HH.trans H.to32; clear H
                go_wp2_with fail
                refine ho hKK (S.c3 6 rfl) fun hS => ?_
                clear hKK KK
                refine rd 3 fun KK hKK => ?_
                obtain ⟨c5_0, c5_1, c5_2⟩ := S.c3 5 rfl; go_simp; clear c5_0 c5_1 c5_2
                refine ho hKK hS fun hS => ?_
                clear hKK KK
                refine rd 5 fun KK hKK => ?_
                go_simp; clear hS
                refine (S.call (dmax_any ⟨b10, p10, l10, K10, m10, e10, rfl, h10, n10, d10⟩ ⟨b8, p8, l8, K8, m8, e8, rfl, h8, n8, d8⟩ HK.out.1)).mono ?_
                clear S
                rintro e w64 ⟨⟨_, rfl, b12, p12, l12, K12, m12, e12, rfl, h12, n12, d12⟩, S, H⟩
                refine iv7 H n5 n6 n7 n8 n9 n10 n11 ?_; clear n5 n6 n7 n8 n9 n10 n11; intro n5 n6 n7 n8 n9 n10 n11; replace HH := HH.trans H.to32; clear H
                go_wp2_with fail
                refine ho hKK (S.c3 6 rfl) fun hS => ?_
                clear hKK KK
                refine rd 6 fun KK hKK => ?_
                obtain ⟨c0, c1, c2⟩ := S.c3 4 rfl; obtain ⟨f0, f1, f2⟩ := S.f3 4 rfl
                go_simp; clear hS c0 f0 c1 f1 c2 f2
                have HP := S.put3 4 (.bool b11) (.slice p11 l11 K11) (.int .i64 e11) rfl rfl; have H := HP.2; replace S := HP.1; clear HP
                refine iw8 H n5 n6 n7 n8 n9 n10 n11 n12 ?_; clear n5 n6 n7 n8 n9 n10 n11 n12; intro n5 n6 n7 n8 n9 n10 n11 n12; replace HH := HH.trans H; clear H
                refine ho hKK (S.c3 6 rfl) fun hS => ?_
                generalize (((w64.setCell ⟨g14, 0, none⟩ (.bool b11)).setCell ⟨g14, 1, none⟩ (.slice p11 l11 K11)).setCell ⟨g14, 2, none⟩ (.int .i64 e11)) = w65 at S n5 n6 n7 n8 n9 n10 n11 n12 HH hS ⊢
                clear hKK KK
                refine rd 7 fun KK hKK => ?_
                obtain ⟨c0, c1, c2⟩ := S.c3 5 rfl; obtain ⟨f0, f1, f2⟩ := S.f3 5 rfl
                go_simp; clear hS c0 f0 c1 f1 c2 f2
                have HP := S.put3 5 (.bool b12) (.slice p12 l12 K12) (.int .i64 e12) rfl rfl; have H := HP.2; replace S := HP.1; clear HP
                refine iw8 H n5 n6 n7 n8 n9 n10 n11 n12 ?_; clear n5 n6 n7 n8 n9 n10 n11 n12; intro n5 n6 n7 n8 n9 n10 n11 n12; replace HH := HH.trans H; clear H
                refine ho hKK (S.c3 6 rfl) fun hS => ?_
                generalize (((w65.setCell ⟨g15, 0, none⟩ (.bool b12)).setCell ⟨g15, 1, none⟩ (.slice p12 l12 K12)).setCell ⟨g15, 2, none⟩ (.int .i64 e12)) = w66 at S n5 n6 n7 n8 n9 n10 n11 n12 HH hS ⊢
                clear hKK KK
                refine wpAnyH_done (by kernel_rfl) ?_ _
                clear hS HH; go_wp2_with fail
                replace S := S.take 6 (L := [(w.heap.size, 29, [.bool b1, .slice p1 l1 K1, .int .i64 e1, .bool b2, .slice p2 l2 K2, .int .i64 e2]), (w.heap.size + 1, 29, [.bool b3, .slice p3 l3 K3, .int .i64 e3, .bool b4, .slice p4 l4 K4, .int .i64 e4]), (w.heap.size + 1 + 1, 29, [.bool false, .slice none 0 0, .int .i64 0, .bool false, .slice none 0 0, .int .i64 0]), (w.heap.size + 1 + 1 + 1, 103, [.bool b5, .slice p5 l5 K5, .int .i64 e5, .bool b6, .slice p6 l6 K6, .int .i64 e6, .bool b7, .slice p7 l7 K7, .int .i64 e7, .bool b8, .slice p8 l8 K8, .int .i64 e8]), (g14, 27, [.bool b11, .slice p11 l11 K11, .int .i64 e11]), (g15, 27, [.bool b12, .slice p12 l12 K12, .int .i64 e12])]) rfl
                go_roundw
                case rel => exact .inr (.inr (.inr ⟨rfl, n5, n6, n7, n8, b11, p11, l11, K11, m11, e11, b12, p12, l12, K12, m12, e12, h11, n11, d11, h12, n12, d12, S⟩))
                case measure => simp [intOf]
              ·
                obtain ⟨c5_0, c5_1, c5_2⟩ := S.c3 5 rfl; go_simp; clear c5_0 c5_1 c5_2
                refine ho hKK hS fun hS => ?_
                clear hKK KK
                refine rd 2 fun KK hKK => ?_
                go_simp; clear hS
                refine (S.call (dmin_any ⟨b9, p9, l9, K9, m9, e9, rfl, h9, n9, d9⟩ ⟨b8, p8, l8, K8, m8, e8, rfl, h8, n8, d8⟩ HK.out.1)).mono ?_
                clear S
                rintro e w67 ⟨⟨_, rfl, b11, p11, l11, K11, m11, e11, rfl, h11, n11, d11⟩, S, H⟩
                refine iv6 H n5 n6 n7 n8 n9 n10 ?_; clear n5 n6 n7 n8 n9 n10; intro n5 n6 n7 n8 n9 n10; replace HH := HH.trans H.to32; clear H
                go_wp2_with fail
                refine ho hKK (S.c3 6 rfl) fun hS => ?_
                clear hKK KK
                refine rd 5 fun KK hKK => ?_
                go_simp; clear hS
                refine (S.call (dmax_any ⟨b10, p10, l10, K10, m10, e10, rfl, h10, n10, d10⟩ ⟨b8, p8, l8, K8, m8, e8, rfl, h8, n8, d8⟩ HK.out.1)).mono ?_
                clear S
                rintro e w68 ⟨⟨_, rfl, b12, p12, l12, K12, m12, e12, rfl, h12, n12, d12⟩, S, H⟩
                refine iv7 H n5 n6 n7 n8 n9 n10 n11 ?_; clear n5 n6 n7 n8 n9 n10 n11; intro n5 n6 n7 n8 n9 n10 n11; replace HH := HH.trans H.to32; clear H
                go_wp2_with fail
                refine ho hKK (S.c3 6 rfl) fun hS => ?_
                clear hKK KK
                refine rd 6 fun KK hKK => ?_
                obtain ⟨c0, c1, c2⟩ := S.c3 4 rfl; obtain ⟨f0, f1, f2⟩ := S.f3 4 rfl
                go_simp; clear hS c0 f0 c1 f1 c2 f2
                have HP := S.put3 4 (.bool b11) (.slice p11 l11 K11) (.int .i64 e11) rfl rfl; have H := HP.2; replace S := HP.1; clear HP
                refine iw8 H n5 n6 n7 n8 n9 n10 n11 n12 ?_; clear n5 n6 n7 n8 n9 n10 n11 n12; intro n5 n6 n7 n8 n9 n10 n11 n12; replace HH := HH.trans H; clear H
                refine ho hKK (S.c3 6 rfl) fun hS => ?_
                generalize (((w68.setCell ⟨g14, 0, none⟩ (.bool b11)).setCell ⟨g14, 1, none⟩ (.slice p11 l11 K11)).setCell ⟨g14, 2, none⟩ (.int .i64 e11)) = w69 at S n5 n6 n7 n8 n9 n10 n11 n12 HH hS ⊢
                clear hKK KK
                refine rd 7 fun KK hKK => ?_
                obtain ⟨c0, c1, c2⟩ := S.c3 5 rfl; obtain ⟨f0, f1, f2⟩ := S.f3 5 rfl
                go_simp; clear hS c0 f0 c1 f1 c2 f2
                have HP := S.put3 5 (.bool b12) (.slice p12 l12 K12) (.int .i64 e12) rfl rfl; have H := HP.2; replace S := HP.1; clear HP
                refine iw8 H n5 n6 n7 n8 n9 n10 n11 n12 ?_; clear n5 n6 n7 n8 n9 n10 n11 n12; intro n5 n6 n7 n8 n9 n10 n11 n12; replace HH := HH.trans H; clear H
                refine ho hKK (S.c3 6 rfl) fun hS => ?_
                generalize (((w69.setCell ⟨g15, 0, none⟩ (.bool b12)).setCell ⟨g15, 1, none⟩ (.slice p12 l12 K12)).setCell ⟨g15, 2, none⟩ (.int .i64 e12)) = w70 at S n5 n6 n7 n8 n9 n10 n11 n12 HH hS ⊢
                clear hKK KK
                refine wpAnyH_done (by kernel_rfl) ?_ _
                clear hS HH; go_wp2_with fail
                replace S := S.take 6 (L := [(w.heap.size, 29, [.bool b1, .slice p1 l1 K1, .int .i64 e1, .bool b2, .slice p2 l2 K2, .int .i64 e2]), (w.heap.size + 1, 29, [.bool b3, .slice p3 l3 K3, .int .i64 e3, .bool b4, .slice p4 l4 K4, .int .i64 e4]), (w.heap.size + 1 + 1, 29, [.bool false, .slice none 0 0, .int .i64 0, .bool false, .slice none 0 0, .int .i64 0]), (w.heap.size + 1 + 1 + 1, 103, [.bool b5, .slice p5 l5 K5, .int .i64 e5, .bool b6, .slice p6 l6 K6, .int .i64 e6, .bool b7, .slice p7 l7 K7, .int .i64 e7, .bool b8, .slice p8 l8 K8, .int .i64 e8]), (g14, 27, [.bool b11, .slice p11 l11 K11, .int .i64 e11]), (g15, 27, [.bool b12, .slice p12 l12 K12, .int .i64 e12])]) rfl
                go_roundw
                case rel => exact .inr (.inr (.inr ⟨rfl, n5, n6, n7, n8, b11, p11, l11, K11, m11, e11, b12, p12, l12, K12, m12, e12, h11, n11, d11, h12, n12, d12, S⟩))
                case measure => simp [intOf]
            ·
              obtain ⟨c5_0, c5_1, c5_2⟩ := S.c3 5 rfl; go_simp; clear c5_0 c5_1 c5_2
              refine ho hKK hS fun hS => ?_
              clear hKK KK
              refine rd 0 fun KK hKK => ?_
              obtain ⟨c4_0, c4_1, c4_2⟩ := S.c3 4 rfl; go_simp; clear c4_0 c4_1 c4_2
              refine ho hKK hS fun hS => ?_
              clear hKK KK
              refine rd 2 fun KK hKK => ?_
              go_simp; clear hS
              refine (S.call (dmin_any ⟨b9, p9, l9, K9, m9, e9, rfl, h9, n9, d9⟩ ⟨b8, p8, l8, K8, m8, e8, rfl, h8, n8, d8⟩ HK.out.1)).mono ?_
              clear S
              rintro e w71 ⟨⟨_, rfl, b11, p11, l11, K11, m11, e11, rfl, h11, n11, d11⟩, S, H⟩
              refine iv6 H n5 n6 n7 n8 n9 n10 ?_; clear n5 n6 n7 n8 n9 n10; intro n5 n6 n7 n8 n9 n10; replace HH := HH.trans H.to32; clear H
              go_wp2_with fail
              refine ho hKK (S.c3 6 rfl) fun hS => ?_
              clear hKK KK
              refine rd 5 fun KK hKK => ?_
              go_simp; clear hS
              refine (S.call (dmax_any ⟨b10, p10, l10, K10, m10, e10, rfl, h10, n10, d10⟩ ⟨b8, p8, l8, K8, m8, e8, rfl, h8, n8, d8⟩ HK.out.1)).mono ?_
              clear S
              rintro e w72 ⟨⟨_, rfl, b12, p12, l12, K12, m12, e12, rfl, h12, n12, d12⟩, S, H⟩
              refine iv7 H n5 n6 n7 n8 n9 n10 n11 ?_; clear n5 n6 n7 n8 n9 n10 n11; intro n5 n6 n7 n8 n9 n10 n11; replace HH := HH.trans H.to32; clear H
              go_wp2_with fail
              refine ho hKK (S.c3 6 rfl) fun hS => ?_
              clear hKK KK
              refine rd 6 fun KK hKK => ?_
              obtain ⟨c0, c1, c2⟩ := S.c3 4 rfl; obtain ⟨f0, f1, f2⟩ := S.f3 4 rfl
              go_simp; clear hS c0 f0 c1 f1 c2 f2
              have HP := S.put3 4 (.bool b11) (.slice p11 l11 K11) (.int .i64 e11) rfl rfl; have H := HP.2; replace S := HP.1; clear HP
              refine iw8 H n5 n6 n7 n8 n9 n10 n11 n12 ?_; clear n5 n6 n7 n8 n9 n10 n11 n12; intro n5 n6 n7 n8 n9 n10 n11 n12; replace HH := HH.trans H; clear H
              refine ho hKK (S.c3 6 rfl) fun hS => ?_
              generalize (((w72.setCell ⟨g14, 0, none⟩ (.bool b11)).setCell ⟨g14, 1, none⟩ (.slice p11 l11 K11)).setCell ⟨g14, 2, none⟩ (.int .i64 e11)) = w73 at S n5 n6 n7 n8 n9 n10 n11 n12 HH hS ⊢
              clear hKK KK
              refine rd 7 fun KK hKK => ?_
              obtain ⟨c0, c1, c2⟩ := S.c3 5 rfl; obtain ⟨f0, f1, f2⟩ := S.f3 5 rfl
              go_simp; clear hS c0 f0 c1 f1 c2 f2
              have HP := S.put3 5 (.bool b12) (.slice p12 l12 K12) (.int .i64 e12) rfl rfl; have H := HP.2; replace S := HP.1; clear HP
              refine iw8 H n5 n6 n7 n8 n9 n10 n11 n12 ?_; clear n5 n6 n7 n8 n9 n10 n11 n12; intro n5 n6 n7 n8 n9 n10 n11 n12; replace HH := HH.trans H; clear H
              refine ho hKK (S.c3 6 rfl) fun hS => ?_
              generalize (((w73.setCell ⟨g15, 0, none⟩ (.bool b12)).setCell ⟨g15, 1, none⟩ (.slice p12 l12 K12)).setCell ⟨g15, 2, none⟩ (.int .i64 e12)) = w74 at S n5 n6 n7 n8 n9 n10 n11 n12 HH hS ⊢
              clear hKK KK
              refine wpAnyH_done (by kernel_rfl) ?_ _
              clear hS HH; go_wp2_with fail
              replace S := S.take 6 (L := [(w.heap.size, 29, [.bool b1, .slice p1 l1 K1, .int .i64 e1, .bool b2, .slice p2 l2 K2, .int .i64 e2]), (w.heap.size + 1, 29, [.bool b3, .slice p3 l3 K3, .int .i64 e3, .bool b4, .slice p4 l4 K4, .int .i64 e4]), (w.heap.size + 1 + 1, 29, [.bool false, .slice none 0 0, .int .i64 0, .bool false, .slice none 0 0, .int .i64 0]), (w.heap.size + 1 + 1 + 1, 103, [.bool b5, .slice p5 l5 K5, .int .i64 e5, .bool b6, .slice p6 l6 K6, .int .i64 e6, .bool b7, .slice p7 l7 K7, .int .i64 e7, .bool b8, .slice p8 l8 K8, .int .i64 e8]), (g14, 27, [.bool b11, .slice p11 l11 K11, .int .i64 e11]), (g15, 27, [.bool b12, .slice p12 l12 K12, .int .i64 e12])]) rfl
              go_roundw
              case rel => exact .inr (.inr (.inr ⟨rfl, n5, n6, n7, n8, b11, p11, l11, K11, m11, e11, b12, p12, l12, K12, m12, e12, h11, n11, d11, h12, n12, d12, S⟩))
              case measure => simp [intOf]
          ·
            obtain ⟨c4_0, c4_1, c4_2⟩ := S.c3 4 rfl; obtain ⟨c5_0, c5_1, c5_2⟩ := S.c3 5 rfl; go_wp2_with fail; clear c4_0 c4_1 c4_2 c5_0 c5_1 c5_2
            refine (S.call (sround_any (HK.out.2.2.2.1.below S.below) ⟨b9, p9, l9, K9, m9, e9, b10, p10, l10, K10, m10, e10, rfl, h9, n9, d9, h10, n10, d10⟩ HK.out.2.2.2.2 n HK.out.2.1 HK.out.2.2.1)).mono ?_
            clear S
            rintro e w61 ⟨⟨_, rfl, b13, p13, l13, K13, m13, e13, b14, p14, l14, K14, m14, e14, rfl, h13, n13, d13, h14, n14, d14⟩, S, H⟩
            replace n9 := n9.hold H; replace n10 := n10.hold H
            clear H; obtain ⟨c4_0, c4_1, c4_2⟩ := S.c3 4 rfl; obtain ⟨c5_0, c5_1, c5_2⟩ := S.c3 5 rfl; clear c4_0 c4_1 c4_2 c5_0 c5_1 c5_2; obtain ⟨c2_0, c2_1, c2_2, c2_3, c2_4, c2_5⟩ := S.c6 2 rfl
            obtain ⟨f2_0, f2_1, f2_2, f2_3, f2_4, f2_5⟩ := S.f6 2 rfl
            have HP := S.put6 2 (.bool b13) (.slice p13 l13 K13) (.int .i64 e13) (.bool b14) (.slice p14 l14 K14) (.int .i64 e14) rfl rfl; have H := HP.2; replace S := HP.1; clear HP
            refine iw4 H n9 n10 n13 n14 ?_; clear n9 n10 n13 n14; intro n9 n10 n13 n14
            clear H; go_wp2_with fail; obtain ⟨d2_0, d2_1, d2_2, d2_3, d2_4, d2_5⟩ := S.c6 2 rfl
            exact bodyPost_ret (v := .tuple #[.agg #[.bool b13, .slice p13 l13 K13, .int .i64 e13, .bool b14, .slice p14 l14 K14, .int .i64 e14], .int .i64 0]) (by simp [results, Tryz.f16, go_sem, d2_0, d2_1, d2_2, d2_3, d2_4, d2_5]) rfl (⟨⟨_, rfl, b13, p13, l13, K13, m13, e13, b14, p14, l14, K14, m14, e14, rfl, h13, n13, d13, h14, n14, d14⟩, S.below⟩)
noncomputable def spA (n : Nat) (x y : Rat × Rat) : Rat × Rat := (rq (x.1 + y.1) n false, rq (x.2 + y.2) n true)
noncomputable def spM (n : Nat) (x y : Rat × Rat) : Rat × Rat := (rq (loM x.1 x.2 y.1 y.2) n false, rq (hiM x.1 x.2 y.1 y.2) n true)
set_option maxRecDepth 100000 in
set_option maxHeartbeats 4000000 in
theorem vplus1_any {va vb : Value} {x y r : Rat × Rat} {w : World} {g n : Nat} {La Ha Lb Hb L H : Nat} (hT : Tab w) (ha : IsSp w va x.1 x.2 La Ha) (hb : IsSp w vb y.1 y.2 Lb Hb) (hg : g < w.heap.size) (e0 : w.cell? ⟨g, 0, none⟩ = some (.int .i64 n))
    (hc : ∀ (va vb : Value) (w : World), Tab w → IsSp w va x.1 x.2 La Ha → IsSp w vb y.1 y.2 Lb Hb → Calls Tryz.prog 14 #[va, vb, .int .i64 n] w fun e w' => (∃ u, e = .returned (.tuple #[u, .int .i64 0]) ∧ IsSp w' u r.1 r.2 L H) ∧ Below w.heap.size w w') :
    Calls Tryz.prog 98 #[va, vb, .pointer (some ⟨g, 0, none⟩)] w fun e w' => (∃ u, e = .returned (.tuple #[u, .int .i64 0]) ∧ IsSp w' u r.1 r.2 L H) ∧ Below w.heap.size w w' := by
  obtain ⟨b1, p1, l1, K1, m1, e1, b2, p2, l2, K2, m2, e2, rfl, h1, n1, d1, h2, n2, d2⟩ := ha
  obtain ⟨b3, p3, l3, K3, m3, e3, b4, p4, l4, K4, m4, e4, rfl, h3, n3, d3, h4, n4, d4⟩ := hb
  have HC := Lib.hid (And.intro hT hc)
  clear hT hc
  have S := (((St.start w).alloc 29 [.bool b1, .slice p1 l1 K1, .int .i64 e1, .bool b2, .slice p2 l2 K2, .int .i64 e2] (w.heap.size)).alloc 29 [.bool b3, .slice p3 l3 K3, .int .i64 e3, .bool b4, .slice p4 l4 K4, .int .i64 e4] (w.heap.size + 1)).alloc 29 [.bool false, .slice none 0 0, .int .i64 0, .bool false, .slice none 0 0, .int .i64 0] (w.heap.size + 1 + 1)
  try simp only [List.cons_append, List.nil_append] at S
  refine iv4 S.hold n1 n2 n3 n4 ?_; clear n1 n2 n3 n4; intro n1 n2 n3 n4
  obtain ⟨c0_0, c0_1, c0_2, c0_3, c0_4, c0_5⟩ := S.c6 0 rfl; obtain ⟨c1_0, c1_1, c1_2, c1_3, c1_4, c1_5⟩ := S.c6 1 rfl; obtain ⟨c2_0, c2_1, c2_2, c2_3, c2_4, c2_5⟩ := S.c6 2 rfl
  go_enter Tryz.func98, Tryz.ntmps98
  replace e0 := (S.below.cell (p := ⟨g, 0, none⟩) hg).trans e0
  go_wp2_with fail; clear c0_0 c0_1 c0_2 c0_3 c0_4 c0_5 c1_0 c1_1 c1_2 c1_3 c1_4 c1_5 c2_0 c2_1 c2_2 c2_3 c2_4 c2_5
  refine (S.call (HC.out.2 _ _ _ (HC.out.1.below S.below) ⟨b1, p1, l1, K1, m1, e1, b2, p2, l2, K2, m2, e2, rfl, h1, n1, d1, h2, n2, d2⟩ ⟨b3, p3, l3, K3, m3, e3, b4, p4, l4, K4, m4, e4, rfl, h3, n3, d3, h4, n4, d4⟩)).mono ?_
  clear S
  rintro e w1 ⟨⟨_, rfl, b5, p5, l5, K5, m5, e5, b6, p6, l6, K6, m6, e6, rfl, h5, n5, d5, h6, n6, d6⟩, S, H⟩
  refine iv4 H n1 n2 n3 n4 ?_; clear n1 n2 n3 n4; intro n1 n2 n3 n4
  clear H; obtain ⟨c0_0, c0_1, c0_2, c0_3, c0_4, c0_5⟩ := S.c6 0 rfl; obtain ⟨c1_0, c1_1, c1_2, c1_3, c1_4, c1_5⟩ := S.c6 1 rfl; obtain ⟨c2_0, c2_1, c2_2, c2_3, c2_4, c2_5⟩ := S.c6 2 rfl; clear e0
  obtain ⟨f2_0, f2_1, f2_2, f2_3, f2_4, f2_5⟩ := S.f6 2 rfl
  have HP := S.put6 2 (.bool b5) (.slice p5 l5 K5) (.int .i64 e5) (.bool b6) (.slice p6 l6 K6) (.int .i64 e6) rfl rfl; have H := HP.2; replace S := HP.1; clear HP
  refine iw6 H n1 n2 n3 n4 n5 n6 ?_; clear n1 n2 n3 n4 n5 n6; intro n1 n2 n3 n4 n5 n6
  clear H; go_wp2_with fail; clear c0_0 c0_1 c0_2 c0_3 c0_4 c0_5 c1_0 c1_1 c1_2 c1_3 c1_4 c1_5 c2_0 c2_1 c2_2 c2_3 c2_4 c2_5 f2_0 f2_1 f2_2 f2_3 f2_4 f2_5; go_wp2_with fail; obtain ⟨d2_0, d2_1, d2_2, d2_3, d2_4, d2_5⟩ := S.c6 2 rfl
  exact bodyPost_ret (v := .tuple #[.agg #[.bool b5, .slice p5 l5 K5, .int .i64 e5, .bool b6, .slice p6 l6 K6, .int .i64 e6], .int .i64 0]) (by simp [results, Tryz.f98, go_sem, d2_0, d2_1, d2_2, d2_3, d2_4, d2_5]) rfl (⟨⟨_, rfl, ⟨b5, p5, l5, K5, m5, e5, b6, p6, l6, K6, m6, e6, rfl, h5, n5, d5, h6, n6, d6⟩⟩, S.below⟩)
set_option maxRecDepth 100000 in
set_option maxHeartbeats 4000000 in
theorem vinner1_any {va vb : Value} {x y r : Rat × Rat} {w : World} {g n : Nat} {La Ha Lb Hb L H : Nat} (hT : Tab w) (ha : IsSp w va x.1 x.2 La Ha) (hb : IsSp w vb y.1 y.2 Lb Hb) (hg : g < w.heap.size) (e0 : w.cell? ⟨g, 0, none⟩ = some (.int .i64 n))
    (hc : ∀ (va vb : Value) (w : World), Tab w → IsSp w va x.1 x.2 La Ha → IsSp w vb y.1 y.2 Lb Hb → Calls Tryz.prog 16 #[va, vb, .int .i64 n] w fun e w' => (∃ u, e = .returned (.tuple #[u, .int .i64 0]) ∧ IsSp w' u r.1 r.2 L H) ∧ Below w.heap.size w w') :
    Calls Tryz.prog 99 #[va, vb, .pointer (some ⟨g, 0, none⟩)] w fun e w' => (∃ u, e = .returned (.tuple #[u, .int .i64 0]) ∧ IsSp w' u r.1 r.2 L H) ∧ Below w.heap.size w w' := by
  obtain ⟨b1, p1, l1, K1, m1, e1, b2, p2, l2, K2, m2, e2, rfl, h1, n1, d1, h2, n2, d2⟩ := ha
  obtain ⟨b3, p3, l3, K3, m3, e3, b4, p4, l4, K4, m4, e4, rfl, h3, n3, d3, h4, n4, d4⟩ := hb
  have HC := Lib.hid (And.intro hT hc)
  clear hT hc
  have S := (((St.start w).alloc 29 [.bool b1, .slice p1 l1 K1, .int .i64 e1, .bool b2, .slice p2 l2 K2, .int .i64 e2] (w.heap.size)).alloc 29 [.bool b3, .slice p3 l3 K3, .int .i64 e3, .bool b4, .slice p4 l4 K4, .int .i64 e4] (w.heap.size + 1)).alloc 29 [.bool false, .slice none 0 0, .int .i64 0, .bool false, .slice none 0 0, .int .i64 0] (w.heap.size + 1 + 1)
  try simp only [List.cons_append, List.nil_append] at S
  refine iv4 S.hold n1 n2 n3 n4 ?_; clear n1 n2 n3 n4; intro n1 n2 n3 n4
  obtain ⟨c0_0, c0_1, c0_2, c0_3, c0_4, c0_5⟩ := S.c6 0 rfl; obtain ⟨c1_0, c1_1, c1_2, c1_3, c1_4, c1_5⟩ := S.c6 1 rfl; obtain ⟨c2_0, c2_1, c2_2, c2_3, c2_4, c2_5⟩ := S.c6 2 rfl
  go_enter Tryz.func99, Tryz.ntmps99
  replace e0 := (S.below.cell (p := ⟨g, 0, none⟩) hg).trans e0
  go_wp2_with fail; clear c0_0 c0_1 c0_2 c0_3 c0_4 c0_5 c1_0 c1_1 c1_2 c1_3 c1_4 c1_5 c2_0 c2_1 c2_2 c2_3 c2_4 c2_5
  refine (S.call (HC.out.2 _ _ _ (HC.out.1.below S.below) ⟨b1, p1, l1, K1, m1, e1, b2, p2, l2, K2, m2, e2, rfl, h1, n1, d1, h2, n2, d2⟩ ⟨b3, p3, l3, K3, m3, e3, b4, p4, l4, K4, m4, e4, rfl, h3, n3, d3, h4, n4, d4⟩)).mono ?_
  clear S
  rintro e w1 ⟨⟨_, rfl, b5, p5, l5, K5, m5, e5, b6, p6, l6, K6, m6, e6, rfl, h5, n5, d5, h6, n6, d6⟩, S, H⟩
  refine iv4 H n1 n2 n3 n4 ?_; clear n1 n2 n3 n4; intro n1 n2 n3 n4
  clear H; obtain ⟨c0_0, c0_1, c0_2, c0_3, c0_4, c0_5⟩ := S.c6 0 rfl; obtain ⟨c1_0, c1_1, c1_2, c1_3, c1_4, c1_5⟩ := S.c6 1 rfl; obtain ⟨c2_0, c2_1, c2_2, c2_3, c2_4, c2_5⟩ := S.c6 2 rfl; clear e0
  obtain ⟨f2_0, f2_1, f2_2, f2_3, f2_4, f2_5⟩ := S.f6 2 rfl
  have HP := S.put6 2 (.bool b5) (.slice p5 l5 K5) (.int .i64 e5) (.bool b6) (.slice p6 l6 K6) (.int .i64 e6) rfl rfl; have H := HP.2; replace S := HP.1; clear HP
  refine iw6 H n1 n2 n3 n4 n5 n6 ?_; clear n1 n2 n3 n4 n5 n6; intro n1 n2 n3 n4 n5 n6
  clear H; go_wp2_with fail; clear c0_0 c0_1 c0_2 c0_3 c0_4 c0_5 c1_0 c1_1 c1_2 c1_3 c1_4 c1_5 c2_0 c2_1 c2_2 c2_3 c2_4 c2_5 f2_0 f2_1 f2_2 f2_3 f2_4 f2_5; go_wp2_with fail; obtain ⟨d2_0, d2_1, d2_2, d2_3, d2_4, d2_5⟩ := S.c6 2 rfl
  exact bodyPost_ret (v := .tuple #[.agg #[.bool b5, .slice p5 l5 K5, .int .i64 e5, .bool b6, .slice p6 l6 K6, .int .i64 e6], .int .i64 0]) (by simp [results, Tryz.f99, go_sem, d2_0, d2_1, d2_2, d2_3, d2_4, d2_5]) rfl (⟨⟨_, rfl, ⟨b5, p5, l5, K5, m5, e5, b6, p6, l6, K6, m6, e6, rfl, h5, n5, d5, h6, n6, d6⟩⟩, S.below⟩)
set_option maxRecDepth 100000 in
set_option maxHeartbeats 4000000 in
theorem vplus_any {va vb : Value} {xs ys : List (Rat × Rat)} {w : World} {L H : Nat} (hT : Tab w) (ha : Spans w va xs L H) (hb : Spans w vb ys L H) (m : Nat) (hla : xs.length = m) (hlb : ys.length = m) (hm : m ≤ 1000000) (n : Nat) (h2 : 2 ≤ n) (h4 : n ≤ 4096) (hk : H + 2 + L ≤ 16384) :
    Calls Tryz.prog 44 #[va, vb, .int .i64 n] w fun e w' => (∃ v, e = .returned (.tuple #[v, .int .i64 0]) ∧ FreshS w w' v (List.zipWith (spA n) xs ys) L (H + 2)) ∧ Below w.heap.size w w' := by
  have HV := Lib.hid (fun (W : World) (hB : Below w.heap.size w W) (g : Nat) (hg : g < W.heap.size) (e0 : W.cell? ⟨g, 0, none⟩ = some (.int .i64 n)) => vpaSSS_any (Lr := L) (Hr := H + 2) (ha.to hB) (hb.to hB) m hla hlb hm 98 (.pointer (some ⟨g, 0, none⟩)) (spA n) (fun _ _ _ => by kernel_rfl)
    (fun W2 u v k' x y hB2 _ _ hu hv => vplus1_any (r := spA n x y) ((hT.below hB).below hB2) hu hv (Nat.lt_of_lt_of_le hg hB2.size) ((hB2.cell (p := ⟨g, 0, none⟩) hg).trans e0) (fun va vb w hT ha hb => sadd_any hT ha hb hk n h2 h4)))
  clear ha hb hla hlb hm hk hT
  have S := (St.start w).alloc 3 [.int .i64 n] (w.heap.size)
  try simp only [List.nil_append] at S
  have c0_0 := S.c 0 0 rfl rfl
  go_enter Tryz.func44, Tryz.ntmps44
  go_wp2_with fail; clear c0_0
  refine (S.call (HV.out _ S.below _ (S.lt 0 rfl) (S.c 0 0 rfl rfl))).mono ?_
  clear S
  rintro e w1 ⟨⟨v, rfl, hv⟩, S, H⟩
  clear H; have c0_0 := S.c 0 0 rfl rfl; go_wp2_with fail
  exact bodyPost_ret (v := .tuple #[v, .int .i64 0]) (by simp [results, Tryz.f44, go_sem]) rfl (⟨⟨_, rfl, hv.from (by simp)⟩, S.below⟩)
set_option maxRecDepth 100000 in
set_option maxHeartbeats 4000000 in
theorem vtimes1_any {va : Value} {x y r : Rat × Rat} {w : World} {g g2 n : Nat} {La Ha Lb Hb L H : Nat} (hT : Tab w) (ha : IsSp w va x.1 x.2 La Ha) (hg : g < w.heap.size) (hg2 : g2 < w.heap.size) (e0 : w.cell? ⟨g2, 0, none⟩ = some (.int .i64 n))
    {b3 : Bool} {p3 : Option Addr} {l3 K3 : Nat} {m3 e3 : Int} {b4 : Bool} {p4 : Option Addr} {l4 K4 : Nat} {m4 e4 : Int} (a0 : w.cell? ⟨g, 0, none⟩ = some (.bool b3)) (a1 : w.cell? ⟨g, 1, none⟩ = some (.slice p3 l3 K3)) (a2 : w.cell? ⟨g, 2, none⟩ = some (.int .i64 e3)) (a3 : w.cell? ⟨g, 3, none⟩ = some (.bool b4)) (a4 : w.cell? ⟨g, 4, none⟩ = some (.slice p4 l4 K4)) (a5 : w.cell? ⟨g, 5, none⟩ = some (.int .i64 e4))
    (h3 : Hid (negB m3 = b3)) (n3 : IsNat w (.slice p3 l3 K3) m3.natAbs) (d3 : Hid (DyF m3 e3 y.1 Lb Hb)) (h4 : Hid (negB m4 = b4)) (n4 : IsNat w (.slice p4 l4 K4) m4.natAbs) (d4 : Hid (DyF m4 e4 y.2 Lb Hb))
    (hc : ∀ (va vb : Value) (w : World), Tab w → IsSp w va x.1 x.2 La Ha → IsSp w vb y.1 y.2 Lb Hb → Calls Tryz.prog 16 #[va, vb, .int .i64 n] w fun e w' => (∃ u, e = .returned (.tuple #[u, .int .i64 0]) ∧ IsSp w' u r.1 r.2 L H) ∧ Below w.heap.size w w') :
    Calls Tryz.prog 105 #[va, .pointer (some ⟨g, 0, none⟩), .pointer (some ⟨g2, 0, none⟩)] w fun e w' => (∃ u, e = .returned (.tuple #[u, .int .i64 0]) ∧ IsSp w' u r.1 r.2 L H) ∧ Below w.heap.size w w' := by
  obtain ⟨b1, p1, l1, K1, m1, e1, b2, p2, l2, K2, m2, e2, rfl, h1, n1, d1, h2, n2, d2⟩ := ha
  have HC := Lib.hid (And.intro hT hc)
  clear hT hc
  have S := ((St.start w).alloc 29 [.bool b1, .slice p1 l1 K1, .int .i64 e1, .bool b2, .slice p2 l2 K2, .int .i64 e2] (w.heap.size)).alloc 29 [.bool false, .slice none 0 0, .int .i64 0, .bool false, .slice none 0 0, .int .i64 0] (w.heap.size + 1)
  try simp only [List.cons_append, List.nil_append] at S
  refine iv4 S.hold n1 n2 n3 n4 ?_; clear n1 n2 n3 n4; intro n1 n2 n3 n4
  obtain ⟨c0_0, c0_1, c0_2, c0_3, c0_4, c0_5⟩ := S.c6 0 rfl; obtain ⟨c1_0, c1_1, c1_2, c1_3, c1_4, c1_5⟩ := S.c6 1 rfl
  go_enter Tryz.func105, Tryz.ntmps105
  replace e0 := (S.below.cell (p := ⟨g2, 0, none⟩) hg2).trans e0
  replace a0 := (S.below.cell (p := ⟨g, 0, none⟩) hg).trans a0; replace a1 := (S.below.cell (p := ⟨g, 1, none⟩) hg).trans a1; replace a2 := (S.below.cell (p := ⟨g, 2, none⟩) hg).trans a2
  replace a3 := (S.below.cell (p := ⟨g, 3, none⟩) hg).trans a3; replace a4 := (S.below.cell (p := ⟨g, 4, none⟩) hg).trans a4; replace a5 := (S.below.cell (p := ⟨g, 5, none⟩) hg).trans a5
  go_wp2_with fail; clear c0_0 c0_1 c0_2 c0_3 c0_4 c0_5 c1_0 c1_1 c1_2 c1_3 c1_4 c1_5
  refine (S.call (HC.out.2 _ _ _ (HC.out.1.below S.below) ⟨b1, p1, l1, K1, m1, e1, b2, p2, l2, K2, m2, e2, rfl, h1, n1, d1, h2, n2, d2⟩ ⟨b3, p3, l3, K3, m3, e3, b4, p4, l4, K4, m4, e4, rfl, h3, n3, d3, h4, n4, d4⟩)).mono ?_
  clear S
  rintro e w1 ⟨⟨_, rfl, b5, p5, l5, K5, m5, e5, b6, p6, l6, K6, m6, e6, rfl, h5, n5, d5, h6, n6, d6⟩, S, H⟩
  refine iv4 H n1 n2 n3 n4 ?_; clear n1 n2 n3 n4; intro n1 n2 n3 n4
  clear H; obtain ⟨c0_0, c0_1, c0_2, c0_3, c0_4, c0_5⟩ := S.c6 0 rfl; obtain ⟨c1_0, c1_1, c1_2, c1_3, c1_4, c1_5⟩ := S.c6 1 rfl; clear e0 a0 a1 a2 a3 a4 a5
  obtain ⟨f1_0, f1_1, f1_2, f1_3, f1_4, f1_5⟩ := S.f6 1 rfl
  have HP := S.put6 1 (.bool b5) (.slice p5 l5 K5) (.int .i64 e5) (.bool b6) (.slice p6 l6 K6) (.int .i64 e6) rfl rfl; have H := HP.2; replace S := HP.1; clear HP
  refine iw6 H n1 n2 n3 n4 n5 n6 ?_; clear n1 n2 n3 n4 n5 n6; intro n1 n2 n3 n4 n5 n6
  clear H; go_wp2_with fail; clear c0_0 c0_1 c0_2 c0_3 c0_4 c0_5 c1_0 c1_1 c1_2 c1_3 c1_4 c1_5 f1_0 f1_1 f1_2 f1_3 f1_4 f1_5; go_wp2_with fail; obtain ⟨d1_0, d1_1, d1_2, d1_3, d1_4, d1_5⟩ := S.c6 1 rfl
  exact bodyPost_ret (v := .tuple #[.agg #[.bool b5, .slice p5 l5 K5, .int .i64 e5, .bool b6, .slice p6 l6 K6, .int .i64 e6], .int .i64 0]) (by simp [results, Tryz.f105, go_sem, d1_0, d1_1, d1_2, d1_3, d1_4, d1_5]) rfl (⟨⟨_, rfl, ⟨b5, p5, l5, K5, m5, e5, b6, p6, l6, K6, m6, e6, rfl, h5, n5, d5, h6, n6, d6⟩⟩, S.below⟩)
set_option maxRecDepth 100000 in
set_option maxHeartbeats 4000000 in
theorem vtimes_any {va vb : Value} {xs : List (Rat × Rat)} {y : Rat × Rat} {w : World} {La Ha Lb Hb : Nat} (hT : Tab w) (ha : Spans w va xs La Ha) (hb : IsSp w vb y.1 y.2 Lb Hb) (m : Nat) (hla : xs.length = m) (hm : m ≤ 1000000) (n : Nat) (hn2 : 2 ≤ n) (hn4 : n ≤ 4096) (hk : Ha + Hb + 1 + (La + Lb) ≤ 16384) :
    Calls Tryz.prog 51 #[va, vb, .int .i64 n] w fun e w' => (∃ v, e = .returned (.tuple #[v, .int .i64 0]) ∧ FreshS w w' v (xs.map fun x => spM n x y) (La + Lb) (Ha + Hb + 1)) ∧ Below w.heap.size w w' := by
  obtain ⟨b3, p3, l3, K3, m3, e3, b4, p4, l4, K4, m4, e4, rfl, h3, n3, d3, h4, n4, d4⟩ := hb
  have HV := Lib.hid (fun (W : World) (hB : Below w.heap.size w W) (g g2 : Nat) (hg : g < W.heap.size) (hg2 : g2 < W.heap.size) (e0 : W.cell? ⟨g2, 0, none⟩ = some (.int .i64 n)) (n3 : IsNat W (.slice p3 l3 K3) m3.natAbs) (n4 : IsNat W (.slice p4 l4 K4) m4.natAbs) (a0 : W.cell? ⟨g, 0, none⟩ = some (.bool b3)) (a1 : W.cell? ⟨g, 1, none⟩ = some (.slice p3 l3 K3)) (a2 : W.cell? ⟨g, 2, none⟩ = some (.int .i64 e3)) (a3 : W.cell? ⟨g, 3, none⟩ = some (.bool b4)) (a4 : W.cell? ⟨g, 4, none⟩ = some (.slice p4 l4 K4)) (a5 : W.cell? ⟨g, 5, none⟩ = some (.int .i64 e4)) =>
    vplSS_any (Lr := La + Lb) (Hr := Ha + Hb + 1) (ha.to hB) m hla hm 105 (.pointer (some ⟨g, 0, none⟩)) (.pointer (some ⟨g2, 0, none⟩)) (fun x => spM n x y) (fun _ _ => by kernel_rfl)
    (fun W2 u k' x hB2 _ hu => vtimes1_any (r := spM n x y) ((hT.below hB).below hB2) hu (Nat.lt_of_lt_of_le hg hB2.size) (Nat.lt_of_lt_of_le hg2 hB2.size) ((hB2.cell (p := ⟨g2, 0, none⟩) hg2).trans e0) ((hB2.cell (p := ⟨g, 0, none⟩) hg).trans a0) ((hB2.cell (p := ⟨g, 1, none⟩) hg).trans a1) ((hB2.cell (p := ⟨g, 2, none⟩) hg).trans a2) ((hB2.cell (p := ⟨g, 3, none⟩) hg).trans a3) ((hB2.cell (p := ⟨g, 4, none⟩) hg).trans a4) ((hB2.cell (p := ⟨g, 5, none⟩) hg).trans a5)
      h3 (n3.below hB2 (Nat.le_refl _)) d3 h4 (n4.below hB2 (Nat.le_refl _)) d4 (fun va vb w hT ha hb => smul_gen hT ha hb hk n hn2 hn4 _ _ rfl rfl)))
  clear ha hla hm hk hT hn2 hn4
  have S := ((St.start w).alloc 29 [.bool b3, .slice p3 l3 K3, .int .i64 e3, .bool b4, .slice p4 l4 K4, .int .i64 e4] (w.heap.size)).alloc 3 [.int .i64 n] (w.heap.size + 1)
  try simp only [List.cons_append, List.nil_append] at S
  replace n3 := n3.hold S.hold; replace n4 := n4.hold S.hold
  obtain ⟨c0_0, c0_1, c0_2, c0_3, c0_4, c0_5⟩ := S.c6 0 rfl; have c1_0 := S.c 1 0 rfl rfl
  go_enter Tryz.func51, Tryz.ntmps51
  go_wp2_with fail; clear c0_0 c0_1 c0_2 c0_3 c0_4 c0_5 c1_0
  refine (S.call (HV.out _ S.below _ _ (S.lt 0 rfl) (S.lt 1 rfl) (S.c 1 0 rfl rfl) n3 n4 (S.c 0 0 rfl rfl) (S.c 0 1 rfl rfl) (S.c 0 2 rfl rfl) (S.c 0 3 rfl rfl) (S.c 0 4 rfl rfl) (S.c 0 5 rfl rfl))).mono ?_
  clear S
  rintro e w1 ⟨⟨v, rfl, hv⟩, S, H⟩
  replace n3 := n3.hold H; replace n4 := n4.hold H
  clear H; obtain ⟨c0_0, c0_1, c0_2, c0_3, c0_4, c0_5⟩ := S.c6 0 rfl; have c1_0 := S.c 1 0 rfl rfl; go_wp2_with fail
  exact bodyPost_ret (v := .tuple #[v, .int .i64 0]) (by simp [results, Tryz.f51, go_sem]) rfl (⟨⟨_, rfl, hv.from (by simp; omega)⟩, S.below⟩)
theorem isSp_nil (w : World) (L H : Nat) : IsSp w (.agg #[.bool false, .slice none 0 0, .int .i64 0, .bool false, .slice none 0 0, .int .i64 0]) 0 0 L H :=
  ⟨false, none, 0, 0, 0, 0, false, none, 0, 0, 0, 0, rfl, rfl, IsNat.zero _, DyF.zero _ _, rfl, IsNat.zero _, DyF.zero _ _⟩
theorem take_snocS {xs : List (Rat × Rat)} {k : Nat} {x : Rat × Rat} (h : xs[k]? = some x) : xs.take (k + 1) = xs.take k ++ [x] := by
  rw [List.take_add_one, h]
  rfl
noncomputable def foldA (n : Nat) : Rat × Rat → List (Rat × Rat) → Rat × Rat
  | a, [] => a
  | a, x :: xs => foldA n (spA n a x) xs
theorem foldA_snoc (n : Nat) : ∀ (xs : List (Rat × Rat)) (a x : Rat × Rat), foldA n a (xs ++ [x]) = spA n (foldA n a xs) x
  | [], _, _ => rfl
  | y :: ys, a, x => by simp only [List.cons_append, foldA]; exact foldA_snoc n ys _ x
noncomputable def foldF (n : Nat) : List (Rat × Rat) → Rat × Rat
  | [] => (0, 0)
  | p :: ps => foldA n p ps
noncomputable def innerL (n : Nat) (xs ys : List (Rat × Rat)) : Rat × Rat := foldF n (List.zipWith (spM n) xs ys)
set_option maxRecDepth 100000 in
set_option maxHeartbeats 8000000 in
theorem vinner_any {va vb : Value} {xs ys : List (Rat × Rat)} {w : World} {La Ha Lb Hb : Nat} (hT : Tab w) (ha : Spans w va xs La Ha) (hb : Spans w vb ys Lb Hb) (m : Nat) (hla : xs.length = m) (hlb : ys.length = m) (hm : m ≤ 100) (n : Nat) (hn2 : 2 ≤ n) (hn4 : n ≤ 4096) (hk : Ha + Hb + 1 + (La + Lb) + 2 * m + 2 ≤ 16384) :
    Calls Tryz.prog 45 #[va, vb, .int .i64 n] w fun e w' => (∃ u, e = .returned (.tuple #[u, .int .i64 0]) ∧ IsSp w' u (innerL n xs ys).1 (innerL n xs ys).2 (La + Lb) (Ha + Hb + 1 + 2 * m)) ∧ Below w.heap.size w w' := by
  have hz : (List.zipWith (spM n) xs ys).length = m := by simp [hla, hlb]
  have HV := Lib.hid (fun (W : World) (hB : Below w.heap.size w W) (g : Nat) (hg : g < W.heap.size) (e0 : W.cell? ⟨g, 0, none⟩ = some (.int .i64 n)) => vpaSSS_any (Lr := La + Lb) (Hr := Ha + Hb + 1) (ha.to hB) (hb.to hB) m hla hlb (by omega) 99 (.pointer (some ⟨g, 0, none⟩)) (spM n) (fun _ _ _ => by kernel_rfl)
    (fun W2 u v k' x y hB2 _ _ hu hv => vinner1_any (r := spM n x y) ((hT.below hB).below hB2) hu hv (Nat.lt_of_lt_of_le hg hB2.size) ((hB2.cell (p := ⟨g, 0, none⟩) hg).trans e0) (fun va vb w hT ha hb => smul_gen hT ha hb (by omega) n hn2 hn4 _ _ rfl rfl)))
  have HT := Lib.hid hT
  have HN := Lib.hid (And.intro hn2 (And.intro hn4 (And.intro hk (And.intro hm hz))))
  obtain ⟨ps, hps⟩ : ∃ ps, List.zipWith (spM n) xs ys = ps := ⟨_, rfl⟩
  have hin : innerL n xs ys = foldF n ps := by unfold innerL; rw [hps]
  rw [hps] at HV HN
  rw [hin]
  clear ha hb hla hlb hk hT hz hin hps hm
  have S := ((St.start w).alloc 3 [.int .i64 n] (w.heap.size)).alloc 29 [.bool false, .slice none 0 0, .int .i64 0, .bool false, .slice none 0 0, .int .i64 0] (w.heap.size + 1)
  try simp only [List.cons_append, List.nil_append] at S
  have c0_0 := S.c 0 0 rfl rfl; obtain ⟨c1_0, c1_1, c1_2, c1_3, c1_4, c1_5⟩ := S.c6 1 rfl
  go_enter Tryz.func45, Tryz.ntmps45
  go_wp2_with fail; clear c0_0 c1_0 c1_1 c1_2 c1_3 c1_4 c1_5
  refine (S.call (HV.out _ S.below _ (S.lt 0 rfl) (S.c 0 0 rfl rfl))).mono ?_
  clear S
  rintro e w1 ⟨⟨v, rfl, gp, vs, rfl, hgp, hh, hr⟩, S, H⟩
  clear H; have c0_0 := S.c 0 0 rfl rfl; obtain ⟨c1_0, c1_1, c1_2, c1_3, c1_4, c1_5⟩ := S.c6 1 rfl
  have hlen := HN.out.2.2.2.2
  cases ps with
  | nil =>
    simp only [List.length_nil] at hlen ⊢
    subst hlen
    clear hh hr
    obtain ⟨f1_0, f1_1, f1_2, f1_3, f1_4, f1_5⟩ := S.f6 1 rfl
    have HP := S.put6 1 (.bool false) (.slice none 0 0) (.int .i64 0) (.bool false) (.slice none 0 0) (.int .i64 0) rfl rfl; have H := HP.2; replace S := HP.1; clear HP
    clear H; go_wp2_with fail; clear c0_0 c1_0 c1_1 c1_2 c1_3 c1_4 c1_5 f1_0 f1_1 f1_2 f1_3 f1_4 f1_5; go_wp2_with fail; obtain ⟨d1_0, d1_1, d1_2, d1_3, d1_4, d1_5⟩ := S.c6 1 rfl
    exact bodyPost_ret (v := .tuple #[.agg #[.bool false, .slice none 0 0, .int .i64 0, .bool false, .slice none 0 0, .int .i64 0], .int .i64 0]) (by simp [results, Tryz.f45, go_sem, d1_0, d1_1, d1_2, d1_3, d1_4, d1_5]) rfl (⟨⟨_, rfl, isSp_nil _ _ _⟩, S.below⟩)
  | cons p0 ps =>
    obtain ⟨r, hr1⟩ : ∃ r, m = r + 1 := ⟨ps.length, by simpa using hlen.symm⟩
    subst hr1
    have hrl : ps.length = r := by simpa using hlen
    have hgp' : w.heap.size + 1 + 1 ≤ gp := by simpa using hgp
    clear c0_0 c1_0 c1_1 c1_2 c1_3 c1_4 c1_5
    replace S : St w w1 [(w.heap.size, 3, [.int .i64 n]), (w.heap.size + 1, 29, [.bool false, .slice none 0 0, .int .i64 0, .bool false, .slice none 0 0, .int .i64 0]), (gp, 29, vs)] := ⟨S.below, S.locs.adopt (L := [_, _]) (by omega) (by intro x hx; simp at hx; rcases hx with rfl | rfl <;> simp <;> omega) hh⟩
    rw [hlen]
    obtain ⟨v0, v1, v2, v3, v4, v5, k0, k1, k2, k3, k4, k5, b1, p1, l1, K1, m1, e1, b2, p2, l2, K2, m2, e2, hv, h1, n1, d1, h2, n2, d2⟩ := hr.get (j := 0) (q := p0) rfl
    simp only [Value.agg.injEq, Array.mk.injEq, List.cons.injEq, and_true] at hv
    obtain ⟨rfl, rfl, rfl, rfl, rfl, rfl⟩ := hv
    have a0 : w1.cell? ⟨gp, 0, none⟩ = _ := S.c 2 _ rfl k0
    have a1 : w1.cell? ⟨gp, 1, none⟩ = _ := S.c 2 _ rfl k1
    have a2 : w1.cell? ⟨gp, 2, none⟩ = _ := S.c 2 _ rfl k2
    have a3 : w1.cell? ⟨gp, 3, none⟩ = _ := S.c 2 _ rfl k3
    have a4 : w1.cell? ⟨gp, 4, none⟩ = _ := S.c 2 _ rfl k4
    have a5 : w1.cell? ⟨gp, 5, none⟩ = _ := S.c 2 _ rfl k5
    have HRL := Lib.hid (And.intro hrl hgp')
    have hr0 : ¬ ((r + 1 : Nat) : Int) = 0 := by omega
    have hr9 : ((r : Nat) : Int) ≤ 99 := by have := HN.out.2.2.2.1; omega
    have hr8 : (((r + 1 : Nat) : Int) == 0) = false := by simp; omega
    have hr7 : (1 : Int) ≤ ((r + 1 : Nat) : Int) := by omega
    have hr6 : ((r + 1 : Nat) : Int) - 1 = ((r : Nat) : Int) := by omega
    clear k0 k1 k2 k3 k4 k5 hlen hgp hgp' hrl hh
    go_upto_region 5 with fail
    have H := S.hnew 29 [.bool b1, .slice p1 l1 K1, .int .i64 e1, .bool b2, .slice p2 l2 K2, .int .i64 e2]
    replace S := S.alloc 29 [.bool b1, .slice p1 l1 K1, .int .i64 e1, .bool b2, .slice p2 l2 K2, .int .i64 e2] (w1.heap.size)
    simp only [List.cons_append, List.nil_append] at S
    refine iv3 H n1 n2 hr ?_; clear n1 n2 hr; intro n1 n2 hr
    clear H a0 a1 a2 a3 a4 a5
    generalize hw2 : w1.alloc (.cells #[.bool b1, .slice p1 l1 K1, .int .i64 e1, .bool b2, .slice p2 l2 K2, .int .i64 e2] 29) = w2 at S n1 n2 hr ⊢
    generalize hbs : w1.heap.size = bs at S ⊢
    clear hw2 hbs
    by_cases hz : r = 0
    · subst hz
      go_wp2_with fail
      go_loopw [35] (fun si wr => si = .int .i64 0 ∧ wr = w2) (fun _ _ => 0)
      case atStart => exact ⟨rfl, rfl⟩
      case round =>
        obtain ⟨rfl, rfl⟩ := hrel
        have e : ps = [] := List.eq_nil_of_length_eq_zero HRL.out.1
        subst e
        obtain ⟨c1_0, c1_1, c1_2, c1_3, c1_4, c1_5⟩ := S.c6 1 rfl; obtain ⟨c3_0, c3_1, c3_2, c3_3, c3_4, c3_5⟩ := S.c6 3 rfl
        obtain ⟨f1_0, f1_1, f1_2, f1_3, f1_4, f1_5⟩ := S.f6 1 rfl
        have HP := S.put6 1 (.bool b1) (.slice p1 l1 K1) (.int .i64 e1) (.bool b2) (.slice p2 l2 K2) (.int .i64 e2) rfl rfl; have H := HP.2; replace S := HP.1; clear HP
        replace n1 := n1.hold32 H; replace n2 := n2.hold32 H
        clear H; go_wp2_with fail; clear c1_0 c1_1 c1_2 c1_3 c1_4 c1_5 c3_0 c3_1 c3_2 c3_3 c3_4 c3_5 f1_0 f1_1 f1_2 f1_3 f1_4 f1_5; go_wp2_with fail; obtain ⟨d1_0, d1_1, d1_2, d1_3, d1_4, d1_5⟩ := S.c6 1 rfl
        exact bodyPost_ret (v := .tuple #[.agg #[.bool b1, .slice p1 l1 K1, .int .i64 e1, .bool b2, .slice p2 l2 K2, .int .i64 e2], .int .i64 0]) (by simp [results, Tryz.f45, go_sem, d1_0, d1_1, d1_2, d1_3, d1_4, d1_5]) rfl (⟨⟨_, rfl, IsSp.mono ⟨b1, p1, l1, K1, m1, e1, b2, p2, l2, K2, m2, e2, rfl, h1, n1, d1, h2, n2, d2⟩ (Nat.le_refl _) (by omega)⟩, S.below⟩)
    · go_wp2_with fail
      go_loopw [35] (fun si wr => ∃ k : Nat, k ≤ r ∧ si = .int .i64 k ∧ ∃ u0 u1 u2 u3 u4 u5 : Value, IsSp wr (.agg #[u0, u1, u2, u3, u4, u5]) (foldA n p0 (ps.take k)).1 (foldA n p0 (ps.take k)).2 (La + Lb) (Ha + Hb + 1 + 2 * k) ∧ SL wr (La + Lb) (Ha + Hb + 1) vs (p0 :: ps) ∧ St w wr [(w.heap.size, 3, [.int .i64 n]), (w.heap.size + 1, 29, [.bool false, .slice none 0 0, .int .i64 0, .bool false, .slice none 0 0, .int .i64 0]), (gp, 29, vs), (bs, 29, [u0, u1, u2, u3, u4, u5])]) (fun si _ => r - (intOf si).toNat)
      case atStart => exact ⟨0, by omega, rfl, _, _, _, _, _, _, ⟨b1, p1, l1, K1, m1, e1, b2, p2, l2, K2, m2, e2, rfl, h1, n1, d1, h2, n2, d2⟩, hr, S⟩
      case round =>
        clear S n1 n2 hr h1 h2 d1 d2
        obtain ⟨k, hk, rfl, u0, u1, u2, u3, u4, u5, ⟨b3, p3, l3, K3, m3, e3, b4, p4, l4, K4, m4, e4, hv, h3, n3, d3, h4, n4, d4⟩, hr, S⟩ := hrel
        simp only [Value.agg.injEq, Array.mk.injEq, List.cons.injEq, and_true] at hv
        obtain ⟨rfl, rfl, rfl, rfl, rfl, rfl⟩ := hv
        by_cases hlt : k < r
        · have hq : ps[k]? = some (ps[k]'(by have := HRL.out.1; omega)) := List.getElem?_eq_getElem _
          generalize ps[k]'(by have := HRL.out.1; omega) = q at hq
          obtain ⟨v0, v1, v2, v3, v4, v5, k0, k1, k2, k3, k4, k5, b5, p5, l5, K5, m5, e5, b6, p6, l6, K6, m6, e6, hv, h5, n5, d5, h6, n6, d6⟩ := hr.get (j := k + 1) (q := q) (by simpa using hq)
          simp only [Value.agg.injEq, Array.mk.injEq, List.cons.injEq, and_true] at hv
          obtain ⟨rfl, rfl, rfl, rfl, rfl, rfl⟩ := hv
          have e9 : (k + 1) * 6 = 6 + k * 6 := by omega
          rw [e9] at k0 k1 k2 k3 k4 k5
          have a0 := S.c 2 _ rfl k0; have a1 := S.c 2 _ rfl k1; have a2 := S.c 2 _ rfl k2; have a3 := S.c 2 _ rfl k3; have a4 := S.c 2 _ rfl k4; have a5 := S.c 2 _ rfl k5
          have HQ := Lib.hid (And.intro hlt hq)
          have hki : (k : Int) < ((r : Nat) : Int) := by omega
          have hk9 : (k : Int) ≤ 100 := by omega
          clear k0 k1 k2 k3 k4 k5 e9 hlt hq hk
          go_upto_region 8 with fail
          clear a0 a1 a2 a3 a4 a5
          have H := S.hnew 29 [.bool b5, .slice p5 l5 K5, .int .i64 e5, .bool b6, .slice p6 l6 K6, .int .i64 e6]
          replace S := S.al 29 [.bool b5, .slice p5 l5 K5, .int .i64 e5, .bool b6, .slice p6 l6 K6, .int .i64 e6] (wr.heap.size)
          refine iv5 H n3 n4 n5 n6 hr ?_; clear n3 n4 n5 n6 hr; intro n3 n4 n5 n6 hr
          clear H; have c0_0 := S.c 0 0 rfl rfl; obtain ⟨c3_0, c3_1, c3_2, c3_3, c3_4, c3_5⟩ := S.c6 3 rfl; obtain ⟨c4_0, c4_1, c4_2, c4_3, c4_4, c4_5⟩ := S.c6 4 rfl; go_wp2_with fail; clear c0_0 c3_0 c3_1 c3_2 c3_3 c3_4 c3_5 c4_0 c4_1 c4_2 c4_3 c4_4 c4_5
          refine (S.call (sadd_any (L := La + Lb) (H := Ha + Hb + 1 + 2 * k) (HT.out.below S.below) ⟨b3, p3, l3, K3, m3, e3, b4, p4, l4, K4, m4, e4, rfl, h3, n3, d3, h4, n4, d4⟩ (IsSp.mono ⟨b5, p5, l5, K5, m5, e5, b6, p6, l6, K6, m6, e6, rfl, h5, n5, d5, h6, n6, d6⟩ (Nat.le_refl _) (by omega)) (by have := HN.out.2.2.1; have := HQ.out.1; omega) n hn2 hn4)).mono ?_
          clear S
          rintro e w61 ⟨⟨_, rfl, b7, p7, l7, K7, m7, e7, b8, p8, l8, K8, m8, e8, rfl, h7, n7, d7, h8, n8, d8⟩, S, H⟩
          refine iv5 H n3 n4 n5 n6 hr ?_; clear n3 n4 n5 n6 hr; intro n3 n4 n5 n6 hr
          clear H; have c0_0 := S.c 0 0 rfl rfl; obtain ⟨c3_0, c3_1, c3_2, c3_3, c3_4, c3_5⟩ := S.c6 3 rfl; obtain ⟨c4_0, c4_1, c4_2, c4_3, c4_4, c4_5⟩ := S.c6 4 rfl; clear n3 n4 n5 n6; clear h3 h4 h5 h6 d3 d4 d5 d6; clear c0_0 c3_0 c3_1 c3_2 c3_3 c3_4 c3_5 c4_0 c4_1 c4_2 c4_3 c4_4 c4_5; obtain ⟨c3_0, c3_1, c3_2, c3_3, c3_4, c3_5⟩ := S.c6 3 rfl
          obtain ⟨f3_0, f3_1, f3_2, f3_3, f3_4, f3_5⟩ := S.f6 3 rfl
          have HP := S.put6 3 (.bool b7) (.slice p7 l7 K7) (.int .i64 e7) (.bool b8) (.slice p8 l8 K8) (.int .i64 e8) rfl rfl; have H := HP.2; replace S := HP.1; clear HP
          refine iw3 H hr n7 n8 ?_; clear hr n7 n8; intro hr n7 n8
          clear H; go_wp2_with fail
          replace S := S.take 4 rfl
          refine ⟨?_, ?measure⟩
          · refine ⟨_, _, _, _, _, _, _, _, _, _, _, _, _, _, _, _, _, _, _, ?rel, rfl⟩
            refine ⟨k + 1, HQ.out.1, by go_num, _, _, _, _, _, _, ?_, hr, S⟩
            rw [take_snocS HQ.out.2, foldA_snoc]
            exact IsSp.mono ⟨b7, p7, l7, K7, m7, e7, b8, p8, l8, K8, m8, e8, rfl, h7, n7, d7, h8, n8, d8⟩ (Nat.le_refl _) (by omega)
          case measure => have := HQ.out.1; simp [intOf]; omega
        · have hki : ¬ (k : Int) < ((r : Nat) : Int) := by omega
          have hkr : k = r := by omega
          subst hkr
          rw [List.take_of_length_le (by have := HRL.out.1; omega)] at d3 d4
          clear hlt hk hr; obtain ⟨c1_0, c1_1, c1_2, c1_3, c1_4, c1_5⟩ := S.c6 1 rfl; obtain ⟨c3_0, c3_1, c3_2, c3_3, c3_4, c3_5⟩ := S.c6 3 rfl
          obtain ⟨f1_0, f1_1, f1_2, f1_3, f1_4, f1_5⟩ := S.f6 1 rfl
          have HP := S.put6 1 (.bool b3) (.slice p3 l3 K3) (.int .i64 e3) (.bool b4) (.slice p4 l4 K4) (.int .i64 e4) rfl rfl; have H := HP.2; replace S := HP.1; clear HP
          replace n3 := n3.hold32 H; replace n4 := n4.hold32 H
          clear H; go_wp2_with fail; clear c1_0 c1_1 c1_2 c1_3 c1_4 c1_5 c3_0 c3_1 c3_2 c3_3 c3_4 c3_5 f1_0 f1_1 f1_2 f1_3 f1_4 f1_5; go_wp2_with fail; obtain ⟨d1_0, d1_1, d1_2, d1_3, d1_4, d1_5⟩ := S.c6 1 rfl
          exact bodyPost_ret (v := .tuple #[.agg #[.bool b3, .slice p3 l3 K3, .int .i64 e3, .bool b4, .slice p4 l4 K4, .int .i64 e4], .int .i64 0]) (by simp [results, Tryz.f45, go_sem, d1_0, d1_1, d1_2, d1_3, d1_4, d1_5]) rfl (⟨⟨_, rfl, IsSp.mono ⟨b3, p3, l3, K3, m3, e3, b4, p4, l4, K4, m4, e4, rfl, h3, n3, d3, h4, n4, d4⟩ (Nat.le_refl _) (by omega)⟩, S.below⟩)
theorem zip_snocSRB {F : Rat × Rat → Rat → Bool} : ∀ {xs : List (Rat × Rat)} {ys : List (Rat)} {k : Nat} {x : Rat × Rat} {y : Rat}, xs[k]? = some x → ys[k]? = some y → (List.zipWith F xs ys).take (k + 1) = (List.zipWith F xs ys).take k ++ [F x y]
  | [], _, _, _, _, h, _ => by simp at h
  | _ :: _, [], _, _, _, _, h => by simp at h
  | a :: xs, b :: ys, 0, x, y, h1, h2 => by simp at h1 h2; subst h1 h2; simp
  | a :: xs, b :: ys, k + 1, x, y, h1, h2 => by
    have := zip_snocSRB (F := F) (xs := xs) (ys := ys) (k := k) (by simpa using h1) (by simpa using h2)
    simp [this]
set_option maxRecDepth 100000 in
set_option maxHeartbeats 4000000 in
theorem vpaSRB_any {va vb : Value} {xs : List (Rat × Rat)} {ys : List Rat} {w : World} {La Ha : Nat} (ha : Spans w va xs La Ha) (hb : Rats w vb ys) (n : Nat) (hla : xs.length = n) (hlb : ys.length = n) (hn : n ≤ 1000000) (fid : FuncId) (F : Rat × Rat → Rat → Bool) (hcf : ∀ (u v : Value) (W : World), Sem.run Tryz.prog (callFunc fid #[u, v]) W = .ok (.enter fid #[u, v]) W)
    (hf : ∀ (W : World) (u v : Value) (k : Nat) (x : Rat × Rat) (y : Rat), Below w.heap.size w W → xs[k]? = some x → ys[k]? = some y → IsSp W u x.1 x.2 La Ha → IsRat W v y → Calls Tryz.prog fid #[u, v] W fun e w' => (e = .returned (.tuple #[.bool (F x y), .int .i64 0])) ∧ Below W.heap.size W w') :
    Calls Tryz.prog 100 #[va, vb, .func (.func fid) #[] #[]] w fun e w' => (∃ v, e = .returned (.tuple #[v, .int .i64 0]) ∧ FreshB w w' v (List.zipWith F xs ys)) ∧ Below w.heap.size w w' := by
  have hz : (List.zipWith F xs ys).length = n := by simp [hla, hlb]
  obtain ⟨r1, s1, ca1, rfl, hr1⟩ := ha.form
  have HG1 := Lib.hid hr1
  clear hr1
  obtain ⟨pp2, ca2, rfl⟩ := hb.form
  rw [hla] at ha ⊢
  rw [hlb] at hb ⊢
  have HI := Lib.hid (And.intro ha (And.intro hb (And.intro hf (And.intro hz hn))))
  clear ha hb hf hz
  have S := St.start w
  go_enter Tryz.func100, Tryz.ntmps100
  go_upto_region 4 with (at_make; refine make_bools S rfl _ _ rfl _ _ n rfl rfl ?hL ?hC ?hn (fun w3 S3 hB3 => ?_))
  case hL => rfl
  case hC => rfl
  case hn => omega
  simp only [List.nil_append] at S3
  replace S := S3
  clear S3 hB3; go_wp2_with fail
  go_loopw [22] (fun si wr => ∃ k : Nat, k ≤ n ∧ si = .int .i64 k ∧ ∃ vs, Hid (vs = (((List.zipWith F xs ys).take k)).map Value.bool) ∧ St w wr [(w.heap.size, 4, vs ++ List.replicate (n - k) (Value.bool false))]) (fun si _ => n - (intOf si).toNat)
  case atStart => exact ⟨0, by omega, rfl, [], rfl, S⟩
  case round =>
    clear S
    obtain ⟨k, hk, rfl, vs, hv, S⟩ := hrel
    by_cases hlt : k < n
    · obtain ⟨r, hr⟩ : ∃ r, n - k = r + 1 := ⟨n - k - 1, by omega⟩
      rw [hr] at S
      have hl : vs.length = k := by rw [hv.out, List.length_map, List.length_take, HI.out.2.2.2.1]; omega
      obtain ⟨z1, b1, p1, l1, K1, m1, e1, c1, q1, j1, J1, o1, f1, hq1, a1_0, a1_1, a1_2, a1_3, a1_4, a1_5, h1, n1, x1, g1, d1, y1⟩ := HI.out.1.get hlt
      have hr1 := HG1.out
      replace a1_0 := (S.below.cell (p := ⟨r1, s1 + k * 6, none⟩) hr1).trans a1_0
      replace a1_1 := (S.below.cell (p := ⟨r1, s1 + k * 6 + 1, none⟩) hr1).trans a1_1
      replace a1_2 := (S.below.cell (p := ⟨r1, s1 + k * 6 + 2, none⟩) hr1).trans a1_2
      replace a1_3 := (S.below.cell (p := ⟨r1, s1 + k * 6 + 3, none⟩) hr1).trans a1_3
      replace a1_4 := (S.below.cell (p := ⟨r1, s1 + k * 6 + 4, none⟩) hr1).trans a1_4
      replace a1_5 := (S.below.cell (p := ⟨r1, s1 + k * 6 + 5, none⟩) hr1).trans a1_5
      obtain ⟨r2, s2, z2, v0, v1, v2, rfl, hr2, hq2, a2_0, a2_1, a2_2, b2, p2, l2, K2, q2, j2, J2, rfl, rfl, rfl, h2, n2, d2⟩ := HI.out.2.1.get hlt
      have HC := Lib.hid (And.intro hr2 (And.intro a2_0 (And.intro a2_1 a2_2)))
      clear a2_0 a2_1 a2_2
      have HQ := Lib.hid (And.intro hl (And.intro hlt (And.intro hr (And.intro hq1 (And.intro hq2 hr2)))))
      have hki : (k : Int) < ((n : Nat) : Int) := by omega
      replace n1 := n1.below S.below (Nat.le_refl _); replace d1 := d1.below S.below (Nat.le_refl _); replace n2 := n2.below S.below (Nat.le_refl _); replace d2 := d2.below S.below (Nat.le_refl _)
      clear hr hlt hl hk hq1 hq2 hr1 hr2
      go_upto_region 8 with fail
      have H := S.hnew 29 [.bool b1, .slice p1 l1 K1, .int .i64 e1, .bool c1, .slice q1 j1 J1, .int .i64 f1]
      replace S := S.alloc 29 [.bool b1, .slice p1 l1 K1, .int .i64 e1, .bool c1, .slice q1 j1 J1, .int .i64 f1] (wr.heap.size)
      simp only [List.cons_append, List.nil_append] at S
      refine iv4 H n1 d1 n2 d2 ?_; clear n1 d1 n2 d2; intro n1 d1 n2 d2
      clear H a1_0 a1_1 a1_2 a1_3 a1_4 a1_5
      generalize (wr.alloc (.cells #[.bool b1, .slice p1 l1 K1, .int .i64 e1, .bool c1, .slice q1 j1 J1, .int .i64 f1] 29)) = w1 at S n1 d1 n2 d2 ⊢
      have H := Hold.drew w1
      refine iv4 H n1 d1 n2 d2 ?_; clear n1 d1 n2 d2; intro n1 d1 n2 d2
      clear H
      replace S := S.drew
      generalize hgx : wr.heap.size = gx at S ⊢
      clear hgx
      refine wp_region_held_drew (S := fun W => W.cell? ⟨r2, s2 + k * 3, none⟩ = some (.bool b2) ∧ W.cell? ⟨r2, s2 + k * 3 + 1, none⟩ = some (.slice p2 l2 K2) ∧ W.cell? ⟨r2, s2 + k * 3 + 2, none⟩ = some (.slice q2 j2 J2) ∧ W.cell? ⟨gx, 0, none⟩ = some (.bool b1) ∧ W.cell? ⟨gx, 1, none⟩ = some (.slice p1 l1 K1) ∧ W.cell? ⟨gx, 2, none⟩ = some (.int .i64 e1) ∧ W.cell? ⟨gx, 3, none⟩ = some (.bool c1) ∧ W.cell? ⟨gx, 4, none⟩ = some (.slice q1 j1 J1) ∧ W.cell? ⟨gx, 5, none⟩ = some (.int .i64 f1)) (by kernel_rfl) ⟨(S.below.cell (p := ⟨r2, s2 + k * 3, none⟩) HC.out.1).trans HC.out.2.1, (S.below.cell (p := ⟨r2, s2 + k * 3 + 1, none⟩) HC.out.1).trans HC.out.2.2.1, (S.below.cell (p := ⟨r2, s2 + k * 3 + 2, none⟩) HC.out.1).trans HC.out.2.2.2, S.c6 1 rfl⟩ (fun hS => ?_)
      generalize w1.drew = w2 at S n1 d1 n2 d2 hS ⊢
      refine tk 0 hS ?_
      refine tk 1 hS ?_
      refine tk 2 hS ?_
      refine tk 3 hS ?_
      refine tk 4 hS ?_
      refine tk 5 hS ?_
      refine tk 6 hS ?_
      refine tk 7 hS ?_
      refine rd 8 fun KK hKK => ?_
      go_simp; clear hS
      refine (S.call (HI.out.2.2.1 _ _ _ k z1 z2 S.below HQ.out.2.2.2.1 HQ.out.2.2.2.2.1 ⟨b1, p1, l1, K1, m1, e1, c1, q1, j1, J1, o1, f1, rfl, h1, n1, x1, g1, d1, y1⟩ ⟨b2, p2, l2, K2, q2, j2, J2, rfl, h2, n2, d2⟩)).mono ?_
      clear S
      rintro e w4 ⟨rfl, S, H⟩
      clear H n1 d1 n2 d2 h1 x1 g1 y1 h2; go_wp2_with fail
      refine ho hKK ⟨(S.below.cell (p := ⟨r2, s2 + k * 3, none⟩) HC.out.1).trans HC.out.2.1, (S.below.cell (p := ⟨r2, s2 + k * 3 + 1, none⟩) HC.out.1).trans HC.out.2.2.1, (S.below.cell (p := ⟨r2, s2 + k * 3 + 2, none⟩) HC.out.1).trans HC.out.2.2.2, S.c6 1 rfl⟩ fun hS => ?_
      clear hKK KK
      refine tk 9 hS ?_
      refine tk 10 hS ?_
      refine tk 11 hS ?_
      refine rd 12 fun KK hKK => ?_
      go_simp
      refine ho hKK hS fun hS => ?_
      clear hKK KK
      refine rd 13 fun KK hKK => ?_
      generalize hr9 : F z1 z2 = r9
      have f0 := S.f 0 k rfl
      obtain ⟨S2, H⟩ := S.putAtB 0 (.bool r9) rfl HQ.out.1
      have g0 := S.c 0 k rfl (v := .bool false) (by rw [← HQ.out.1]; simp)
      clear hS; go_simp; clear S f0 g0
      replace S := S2
      clear S2
      simp only [List.set_cons_zero] at S
      refine ho hKK ⟨(S.below.cell (p := ⟨r2, s2 + k * 3, none⟩) HC.out.1).trans HC.out.2.1, (S.below.cell (p := ⟨r2, s2 + k * 3 + 1, none⟩) HC.out.1).trans HC.out.2.2.1, (S.below.cell (p := ⟨r2, s2 + k * 3 + 2, none⟩) HC.out.1).trans HC.out.2.2.2, S.c6 1 rfl⟩ fun hS => ?_
      clear hKK KK
      refine rd 14 fun KK hKK => ?_
      go_simp
      refine ho hKK hS fun hS => ?_
      clear hKK KK
      refine wpAnyH_done (by kernel_rfl) ?_ _
      clear H hS
      replace S := S.take 1 rfl
      go_wp2_with fail
      go_roundw
      case rel => exact ⟨k + 1, HQ.out.2.1, by go_num, (vs ++ [Value.bool r9]), by show _ = _; rw [zip_snocSRB HQ.out.2.2.2.1 HQ.out.2.2.2.2.1, hv.out, hr9]; simp, by rw [show n - (k + 1) = r by have := HQ.out.2.2.1; omega]; exact S⟩
      case measure => have := HQ.out.2.1; simp [intOf]; omega
    · have hki : ¬ (k : Int) < ((n : Nat) : Int) := by omega
      have hkn : k = n := by omega
      subst hkn
      rw [Nat.sub_self] at S
      rw [List.take_of_length_le (by rw [HI.out.2.2.2.1]; omega)] at hv
      simp only [List.replicate_zero, List.append_nil] at S
      clear hlt hk; go_wp2_with fail
      exact bodyPost_ret (v := .tuple #[.slice (some ⟨w.heap.size, 0, none⟩) k k, .int .i64 0]) (by simp [results, Tryz.f100, go_sem]) rfl (⟨⟨_, rfl, _, vs, by rw [HI.out.2.2.2.1], Nat.le_refl _, (S.locs.get 0 rfl).2, hv.out⟩, S.below⟩)
set_option maxRecDepth 100000 in
set_option maxHeartbeats 2000000 in
theorem over_any {va vb : Value} {n d : Int} {w : World} (ha : IsInt w va n) (hb : IsInt w vb d) (hn : n.natAbs < maxN) (hd : d.natAbs < maxN) (h0 : d ≠ 0) (q : Rat) (hq : q = Rat.divInt n d) :
    Calls Tryz.prog 80 #[va, vb, .int .i64 0] w fun e w' => (∃ u, e = .returned (.tuple #[u, .int .i64 0]) ∧ IsRat w' u q) ∧ Below w.heap.size w w' := by
  obtain ⟨p1, l1, K1, rfl, n1⟩ := ha
  obtain ⟨p2, l2, K2, rfl, n2⟩ := hb
  obtain ⟨b1, hb1⟩ : ∃ b1, negB n = b1 := ⟨_, rfl⟩
  obtain ⟨b2, hb2⟩ : ∃ b2, negB d = b2 := ⟨_, rfl⟩
  rw [hb1, hb2]
  have HD := Lib.hid (And.intro hb1 (And.intro hb2 (And.intro hn (And.intro hd (And.intro h0 hq)))))
  clear hb1 hb2 hn hd h0 hq
  have S := (((St.start w).alloc 25 [.bool b1, .slice p1 l1 K1] (w.heap.size)).alloc 25 [.bool b2, .slice p2 l2 K2] (w.heap.size + 1)).alloc 34 [.bool false, .slice none 0 0, .slice none 0 0] (w.heap.size + 1 + 1)
  try simp only [List.cons_append, List.nil_append] at S
  replace n1 := n1.hold S.hold; replace n2 := n2.hold S.hold
  have c0_0 := S.c 0 0 rfl rfl; have c0_1 := S.c 0 1 rfl rfl; have c1_0 := S.c 1 0 rfl rfl; have c1_1 := S.c 1 1 rfl rfl; obtain ⟨c2_0, c2_1, c2_2⟩ := S.c3 2 rfl
  go_enter Tryz.func80, Tryz.ntmps80
  go_wp2_with fail; clear c0_0 c0_1 c1_0 c1_1 c2_0 c2_1 c2_2
  refine (S.call (rmake_any ⟨_, _, _, by rw [HD.out.1], n1⟩ ⟨_, _, _, by rw [HD.out.2.1], n2⟩ HD.out.2.2.1 HD.out.2.2.2.1 HD.out.2.2.2.2.1 q HD.out.2.2.2.2.2)).mono ?_
  clear S
  rintro e w1 ⟨⟨_, rfl, b, p, l, K, q', j, J, rfl, hb, nn, dd⟩, S, H⟩
  replace n1 := n1.hold H; replace n2 := n2.hold H
  clear H; have c0_0 := S.c 0 0 rfl rfl; have c0_1 := S.c 0 1 rfl rfl; have c1_0 := S.c 1 0 rfl rfl; have c1_1 := S.c 1 1 rfl rfl; obtain ⟨c2_0, c2_1, c2_2⟩ := S.c3 2 rfl
  obtain ⟨f2_0, f2_1, f2_2⟩ := S.f3 2 rfl
  have HP := S.putq 2 (.bool b) (.slice p l K) (.slice q' j J) rfl rfl; have H := HP.2; replace S := HP.1; clear HP
  refine iv4 H n1 n2 nn dd ?_; clear n1 n2 nn dd; intro n1 n2 nn dd
  clear H; go_wp2_with fail; obtain ⟨d2_0, d2_1, d2_2⟩ := S.c3 2 rfl
  exact bodyPost_ret (v := .tuple #[.agg #[.bool b, .slice p l K, .slice q' j J], .int .i64 0]) (by simp [results, Tryz.f80, go_sem, d2_0, d2_1, d2_2]) rfl (⟨⟨_, rfl, b, p, l, K, q', j, J, rfl, hb, nn, dd⟩, S.below⟩)
set_option maxRecDepth 100000 in
set_option maxHeartbeats 4000000 in
theorem rmul_any {va vb : Value} {x y : Rat} {w : World} (ha : IsRat w va x) (hb : IsRat w vb y) {k1 k2 : Nat} (hx : RB x k1) (hy : RB y k2) (hk : k1 + k2 ≤ 511) (q : Rat) (hq : x * y = q) :
    Calls Tryz.prog 20 #[va, vb] w fun e w' => (∃ u, e = .returned (.tuple #[u, .int .i64 0]) ∧ IsRat w' u q) ∧ Below w.heap.size w w' := by
  obtain ⟨b1, p1, l1, K1, q1, j1, J1, rfl, hb1, n1, d1⟩ := ha
  obtain ⟨b2, p2, l2, K2, q2, j2, J2, rfl, hb2, n2, d2⟩ := hb
  obtain ⟨Z, hZ⟩ : ∃ Z, x.num * y.num = Z := ⟨_, rfl⟩
  obtain ⟨D, hD⟩ : ∃ D, ((x.den * y.den : Nat) : Int) = D := ⟨_, rfl⟩
  have hb := rbz hx hy
  rw [hZ] at hb
  have hD0 : D ≠ 0 := by rw [← hD]; have := Nat.mul_pos x.den_pos y.den_pos; omega
  have hDb : D.natAbs < maxN := by rw [← hD, Int.natAbs_natCast]; exact nb_max hb.2.2.1 (by omega)
  have hdd : (x.den : Int) * (y.den : Int) = D := by rw [← hD, Int.natCast_mul]
  have hq2 : q = Rat.divInt Z D := by rw [← hq, mul_divInt, hZ, hD]
  have HX := Lib.hid (And.intro (rb_max hx (by omega)) (rb_max hy (by omega)))
  have HD := Lib.hid (And.intro hZ (And.intro hdd (And.intro hq2 hD0)))
  have HB := Lib.hid (And.intro (nb_max hb.2.2.2 (by omega)) hDb)
  clear hZ hD hb hD0 hDb hdd hq hq2 hx hy hk
  have S := (((St.start w).alloc 34 [.bool b1, .slice p1 l1 K1, .slice q1 j1 J1] (w.heap.size)).alloc 34 [.bool b2, .slice p2 l2 K2, .slice q2 j2 J2] (w.heap.size + 1)).alloc 34 [.bool false, .slice none 0 0, .slice none 0 0] (w.heap.size + 1 + 1)
  try simp only [List.cons_append, List.nil_append] at S
  refine iv4 S.hold n1 d1 n2 d2 ?_; clear n1 d1 n2 d2; intro n1 d1 n2 d2
  obtain ⟨c0_0, c0_1, c0_2⟩ := S.c3 0 rfl; obtain ⟨c1_0, c1_1, c1_2⟩ := S.c3 1 rfl; obtain ⟨c2_0, c2_1, c2_2⟩ := S.c3 2 rfl
  go_enter Tryz.func20, Tryz.ntmps20
  go_wp2_with fail; clear c0_0 c0_1 c0_2 c1_0 c1_1 c1_2 c2_0 c2_1 c2_2
  refine (S.call (wmul_to ⟨_, _, _, by rw [hb1.out], n1⟩ ⟨_, _, _, by rw [hb2.out], n2⟩ HX.out.1.1 HX.out.2.1 Z HD.out.1 HB.out.1)).mono ?_
  clear S
  rintro e w1 ⟨⟨_, rfl, pz, lz, Kz, rfl, nz⟩, S, H⟩
  refine iv4 H n1 d1 n2 d2 ?_; clear n1 d1 n2 d2; intro n1 d1 n2 d2
  clear H; obtain ⟨c0_0, c0_1, c0_2⟩ := S.c3 0 rfl; obtain ⟨c1_0, c1_1, c1_2⟩ := S.c3 1 rfl; obtain ⟨c2_0, c2_1, c2_2⟩ := S.c3 2 rfl
  have H := S.hnew 25 [.bool (negB Z), .slice pz lz Kz]
  replace S := S.al 25 [.bool (negB Z), .slice pz lz Kz] (w1.heap.size)
  refine iv5 H n1 d1 n2 d2 nz ?_; clear n1 d1 n2 d2 nz; intro n1 d1 n2 d2 nz
  clear H; clear c0_0 c0_1 c0_2 c1_0 c1_1 c1_2 c2_0 c2_1 c2_2; obtain ⟨c0_0, c0_1, c0_2⟩ := S.c3 0 rfl; obtain ⟨c1_0, c1_1, c1_2⟩ := S.c3 1 rfl; obtain ⟨c2_0, c2_1, c2_2⟩ := S.c3 2 rfl; have c3_0 := S.c 3 0 rfl rfl; have c3_1 := S.c 3 1 rfl rfl
  go_upto_region 2 with fail
  clear c0_0 c0_1 c0_2 c1_0 c1_1 c1_2 c2_0 c2_1 c2_2 c3_0 c3_1
  generalize (w1.alloc (.cells #[.bool (negB Z), .slice pz lz Kz] 25)) = w2 at S n1 d1 n2 d2 nz ⊢
  go_cut [8, 9] (fun s8 s9 wx => ∃ g8 pd ld Kd, s8 = .pointer (some ⟨g8, 0, none⟩) ∧ s9 = .int .i64 0 ∧ St w wx [(w.heap.size, 34, [.bool b1, .slice p1 l1 K1, .slice q1 j1 J1]), (w.heap.size + 1, 34, [.bool b2, .slice p2 l2 K2, .slice q2 j2 J2]), (w.heap.size + 1 + 1, 34, [.bool false, .slice none 0 0, .slice none 0 0]), (w1.heap.size, 25, [.bool (negB Z), .slice pz lz Kz]), (g8, 25, [.bool (negB D), .slice pd ld Kd])] ∧ IsNat wx (.slice pd ld Kd) D.natAbs ∧ Hold w2 wx)
  case first =>
    have HH := Hold.drew w2
    refine iv5 HH n1 d1 n2 d2 nz ?_; clear n1 d1 n2 d2 nz; intro n1 d1 n2 d2 nz
    replace S := S.drew
    refine wp_region_held_drew (S := fun W => W.cell? ⟨w.heap.size, 2, none⟩ = some (.slice q1 j1 J1) ∧ W.cell? ⟨w.heap.size + 1, 2, none⟩ = some (.slice q2 j2 J2)) (by kernel_rfl) ⟨(S.c 0 2 rfl rfl), (S.c 1 2 rfl rfl)⟩ (fun hS => ?_)
    generalize w2.drew = w3 at S n1 d1 n2 d2 nz HH hS ⊢
    refine tk 0 hS ?_
    refine tk 1 hS ?_
    refine tk 3 hS ?_
    refine tk 4 hS ?_
    refine wpAnyH_ready (rs := [2, 10]) (by kernel_rfl) (by simp) (AllReadyH.cons (opOf rfl) (fun KK hKK => ?_) (AllReadyH.cons (opOf rfl) (fun KK hKK => ?_) AllReadyH.nil))
    ·
      go_simp; clear hS
      refine (S.call (wnat_any d1 HX.out.1.2 (x.den : Int) rfl)).mono ?_
      clear S
      rintro e w4 ⟨⟨_, rfl, pa, la, Ka, rfl, na⟩, S, H⟩
      refine iv5 H n1 d1 n2 d2 nz ?_; clear n1 d1 n2 d2 nz; intro n1 d1 n2 d2 nz; replace HH := HH.trans H; clear H
      go_wp2_with fail
      refine ho hKK ⟨(S.c 0 2 rfl rfl), (S.c 1 2 rfl rfl)⟩ fun hS => ?_
      clear hKK KK
      refine wpAnyH_ready (rs := [5, 10]) (by kernel_rfl) (by simp) (AllReadyH.cons (opOf rfl) (fun KK hKK => ?_) (AllReadyH.cons (opOf rfl) (fun KK hKK => ?_) AllReadyH.nil))
      ·
        go_simp; clear hS
        refine (S.call (wnat_any d2 HX.out.2.2 (y.den : Int) rfl)).mono ?_
        clear S
        rintro e w5 ⟨⟨_, rfl, pb, lb, Kb, rfl, nb⟩, S, H⟩
        refine iv6 H n1 d1 n2 d2 nz na ?_; clear n1 d1 n2 d2 nz na; intro n1 d1 n2 d2 nz na; replace HH := HH.trans H; clear H
        go_wp2_with fail
        refine ho hKK ⟨(S.c 0 2 rfl rfl), (S.c 1 2 rfl rfl)⟩ fun hS => ?_
        clear hKK KK
        refine wpAnyH_ready (rs := [6, 10]) (by kernel_rfl) (by simp) (AllReadyH.cons (opOf rfl) (fun KK hKK => ?_) (AllReadyH.cons (opOf rfl) (fun KK hKK => ?_) AllReadyH.nil))
        ·
          go_simp; clear hS
          refine (S.call (wmul_to ⟨_, _, _, rfl, na⟩ ⟨_, _, _, rfl, nb⟩ HX.out.1.2 HX.out.2.2 D HD.out.2.1 HB.out.2)).mono ?_
          clear S
          rintro e w6 ⟨⟨_, rfl, pd, ld, Kd, rfl, nd⟩, S, H⟩
          refine iv7 H n1 d1 n2 d2 nz na nb ?_; clear n1 d1 n2 d2 nz na nb; intro n1 d1 n2 d2 nz na nb; replace HH := HH.trans H; clear H
          go_wp2_with fail
          refine ho hKK ⟨(S.c 0 2 rfl rfl), (S.c 1 2 rfl rfl)⟩ fun hS => ?_
          clear hKK KK
          refine tk 7 hS ?_
          refine tk 8 hS ?_
          refine tk 9 hS ?_
          refine rd 10 fun KK hKK => ?_
          go_simp; clear hS
          have H := S.hnew 25 [.bool false, .slice none 0 0]
          replace S := S.al 25 [.bool false, .slice none 0 0] (w6.heap.size)
          refine iv8 H n1 d1 n2 d2 nz na nb nd ?_; clear n1 d1 n2 d2 nz na nb nd; intro n1 d1 n2 d2 nz na nb nd; replace HH := HH.trans H; clear H
          refine ho hKK ⟨(S.c 0 2 rfl rfl), (S.c 1 2 rfl rfl)⟩ fun hS => ?_
          generalize (w6.alloc (.cells #[.bool false, .slice none 0 0] 25)) = w7 at S n1 d1 n2 d2 nz na nb nd HH hS ⊢
          clear hKK KK
          refine rd 11 fun KK hKK => ?_
          have c0 := S.c 4 0 rfl rfl; have f0 := S.f 4 0 rfl; have c1 := S.c 4 1 rfl rfl; have f1 := S.f 4 1 rfl; go_simp; clear hS c0 f0 c1 f1
          have H := S.hset 4 0 (.bool (negB D)) rfl rfl (by intro q n e; cases e)
          replace S := S.set 4 0 (.bool (negB D)) rfl
          refine iv8 H n1 d1 n2 d2 nz na nb nd ?_; clear n1 d1 n2 d2 nz na nb nd; intro n1 d1 n2 d2 nz na nb nd; replace HH := HH.trans H; clear H
          have H := S.hset 4 1 (.slice pd ld Kd) rfl rfl (by intro q n e; cases e)
          replace S := S.set 4 1 (.slice pd ld Kd) rfl
          refine iv8 H n1 d1 n2 d2 nz na nb nd ?_; clear n1 d1 n2 d2 nz na nb nd; intro n1 d1 n2 d2 nz na nb nd; replace HH := HH.trans H; clear H
          refine ho hKK ⟨(S.c 0 2 rfl rfl), (S.c 1 2 rfl rfl)⟩ fun hS => ?_
          generalize ((w7.setCell ⟨w6.heap.size, 0, none⟩ (.bool (negB D))).setCell ⟨w6.heap.size, 1, none⟩ (.slice pd ld Kd)) = w8 at S n1 d1 n2 d2 nz na nb nd HH hS ⊢
          clear hKK KK
          refine rd 12 fun KK hKK => ?_
          go_simp
          refine ho hKK hS fun hS => ?_
          clear hKK KK
          refine wpAnyH_done (by kernel_rfl) ?_ _
          go_wp2_with fail
          go_meet
          case rel => exact ⟨w6.heap.size, pd, ld, Kd, rfl, rfl, S, nd, HH⟩
        ·
          go_simp; clear hS
          have H := S.hnew 25 [.bool false, .slice none 0 0]
          replace S := S.al 25 [.bool false, .slice none 0 0] (w5.heap.size)
          refine iv7 H n1 d1 n2 d2 nz na nb ?_; clear n1 d1 n2 d2 nz na nb; intro n1 d1 n2 d2 nz na nb; replace HH := HH.trans H; clear H
          refine ho hKK ⟨(S.c 0 2 rfl rfl), (S.c 1 2 rfl rfl)⟩ fun hS => ?_
          generalize (w5.alloc (.cells #[.bool false, .slice none 0 0] 25)) = w9 at S n1 d1 n2 d2 nz na nb HH hS ⊢
          clear hKK KK
          refine rd 6 fun KK hKK => ?_
          go_simp; clear hS
          refine (S.call (wmul_to ⟨_, _, _, rfl, na⟩ ⟨_, _, _, rfl, nb⟩ HX.out.1.2 HX.out.2.2 D HD.out.2.1 HB.out.2)).mono ?_
          clear S
          rintro e w10 ⟨⟨_, rfl, pd, ld, Kd, rfl, nd⟩, S, H⟩
          refine iv7 H n1 d1 n2 d2 nz na nb ?_; clear n1 d1 n2 d2 nz na nb; intro n1 d1 n2 d2 nz na nb; replace HH := HH.trans H; clear H
          go_wp2_with fail
          refine ho hKK ⟨(S.c 0 2 rfl rfl), (S.c 1 2 rfl rfl)⟩ fun hS => ?_
          clear hKK KK
          refine tk 7 hS ?_
          refine tk 8 hS ?_
          refine tk 9 hS ?_
          refine rd 11 fun KK hKK => ?_
          have c0 := S.c 4 0 rfl rfl; have f0 := S.f 4 0 rfl; have c1 := S.c 4 1 rfl rfl; have f1 := S.f 4 1 rfl; go_simp; clear hS c0 f0 c1 f1
          have H := S.hset 4 0 (.bool (negB D)) rfl rfl (by intro q n e; cases e)
          replace S := S.set 4 0 (.bool (negB D)) rfl
          refine iv8 H n1 d1 n2 d2 nz na nb nd ?_; clear n1 d1 n2 d2 nz na nb nd; intro n1 d1 n2 d2 nz na nb nd; replace HH := HH.trans H; clear H
          have H := S.hset 4 1 (.slice pd ld Kd) rfl rfl (by intro q n e; cases e)
          replace S := S.set 4 1 (.slice pd ld Kd) rfl
          refine iv8 H n1 d1 n2 d2 nz na nb nd ?_; clear n1 d1 n2 d2 nz na nb nd; intro n1 d1 n2 d2 nz na nb nd; replace HH := HH.trans H; clear H
          refine ho hKK ⟨(S.c 0 2 rfl rfl), (S.c 1 2 rfl rfl)⟩ fun hS => ?_
          generalize ((w10.setCell ⟨w5.heap.size, 0, none⟩ (.bool (negB D))).setCell ⟨w5.heap.size, 1, none⟩ (.slice pd ld Kd)) = w11 at S n1 d1 n2 d2 nz na nb nd HH hS ⊢
          clear hKK KK
          refine rd 12 fun KK hKK => ?_
          go_simp
          refine ho hKK hS fun hS => ?_
          clear hKK KK
          refine wpAnyH_done (by kernel_rfl) ?_ _
          go_wp2_with fail
          go_meet
          case rel => exact ⟨w5.heap.size, pd, ld, Kd, rfl, rfl, S, nd, HH⟩
      ·
        go_simp; clear hS
        have H := S.hnew 25 [.bool false, .slice none 0 0]
        replace S := S.al 25 [.bool false, .slice none 0 0] (w4.heap.size)
        refine iv6 H n1 d1 n2 d2 nz na ?_; clear n1 d1 n2 d2 nz na; intro n1 d1 n2 d2 nz na; replace HH := HH.trans H; clear H
        refine ho hKK ⟨(S.c 0 2 rfl rfl), (S.c 1 2 rfl rfl)⟩ fun hS => ?_
        generalize (w4.alloc (.cells #[.bool false, .slice none 0 0] 25)) = w12 at S n1 d1 n2 d2 nz na HH hS ⊢
        clear hKK KK
        refine rd 5 fun KK hKK => ?_
        go_simp; clear hS
        refine (S.call (wnat_any d2 HX.out.2.2 (y.den : Int) rfl)).mono ?_
        clear S
        rintro e w13 ⟨⟨_, rfl, pb, lb, Kb, rfl, nb⟩, S, H⟩
        refine iv6 H n1 d1 n2 d2 nz na ?_; clear n1 d1 n2 d2 nz na; intro n1 d1 n2 d2 nz na; replace HH := HH.trans H; clear H
        go_wp2_with fail
        refine ho hKK ⟨(S.c 0 2 rfl rfl), (S.c 1 2 rfl rfl)⟩ fun hS => ?_
        clear hKK KK
        refine rd 6 fun KK hKK => ?_
        go_simp; clear hS
        refine (S.call (wmul_to ⟨_, _, _, rfl, na⟩ ⟨_, _, _, rfl, nb⟩ HX.out.1.2 HX.out.2.2 D HD.out.2.1 HB.out.2)).mono ?_
        clear S
        rintro e w14 ⟨⟨_, rfl, pd, ld, Kd, rfl, nd⟩, S, H⟩
        refine iv7 H n1 d1 n2 d2 nz na nb ?_; clear n1 d1 n2 d2 nz na nb; intro n1 d1 n2 d2 nz na nb; replace HH := HH.trans H; clear H
        go_wp2_with fail
        refine ho hKK ⟨(S.c 0 2 rfl rfl), (S.c 1 2 rfl rfl)⟩ fun hS => ?_
        clear hKK KK
        refine tk 7 hS ?_
        refine tk 8 hS ?_
        refine tk 9 hS ?_
        refine rd 11 fun KK hKK => ?_
        have c0 := S.c 4 0 rfl rfl; have f0 := S.f 4 0 rfl; have c1 := S.c 4 1 rfl rfl; have f1 := S.f 4 1 rfl; go_simp; clear hS c0 f0 c1 f1
        have H := S.hset 4 0 (.bool (negB D)) rfl rfl (by intro q n e; cases e)
        replace S := S.set 4 0 (.bool (negB D)) rfl
        refine iv8 H n1 d1 n2 d2 nz na nb nd ?_; clear n1 d1 n2 d2 nz na nb nd; intro n1 d1 n2 d2 nz na nb nd; replace HH := HH.trans H; clear H
        have H := S.hset 4 1 (.slice pd ld Kd) rfl rfl (by intro q n e; cases e)
        replace S := S.set 4 1 (.slice pd ld Kd) rfl
        refine iv8 H n1 d1 n2 d2 nz na nb nd ?_; clear n1 d1 n2 d2 nz na nb nd; intro n1 d1 n2 d2 nz na nb nd; replace HH := HH.trans H; clear H
        refine ho hKK ⟨(S.c 0 2 rfl rfl), (S.c 1 2 rfl rfl)⟩ fun hS => ?_
        generalize ((w14.setCell ⟨w4.heap.size, 0, none⟩ (.bool (negB D))).setCell ⟨w4.heap.size, 1, none⟩ (.slice pd ld Kd)) = w15 at S n1 d1 n2 d2 nz na nb nd HH hS ⊢
        clear hKK KK
        refine rd 12 fun KK hKK => ?_
        go_simp
        refine ho hKK hS fun hS => ?_
        clear hKK KK
        refine wpAnyH_done (by kernel_rfl) ?_ _
        go_wp2_with fail
        go_meet
        case rel => exact ⟨w4.heap.size, pd, ld, Kd, rfl, rfl, S, nd, HH⟩
    ·
      go_simp; clear hS
      have H := S.hnew 25 [.bool false, .slice none 0 0]
      replace S := S.al 25 [.bool false, .slice none 0 0] (w3.heap.size)
      refine iv5 H n1 d1 n2 d2 nz ?_; clear n1 d1 n2 d2 nz; intro n1 d1 n2 d2 nz; replace HH := HH.trans H; clear H
      refine ho hKK ⟨(S.c 0 2 rfl rfl), (S.c 1 2 rfl rfl)⟩ fun hS => ?_
      generalize (w3.alloc (.cells #[.bool false, .slice none 0 0] 25)) = w16 at S n1 d1 n2 d2 nz HH hS ⊢
      clear hKK KK
      refine rd 2 fun KK hKK => ?_
      go_simp; clear hS
      refine (S.call (wnat_any d1 HX.out.1.2 (x.den : Int) rfl)).mono ?_
      clear S
      rintro e w17 ⟨⟨_, rfl, pa, la, Ka, rfl, na⟩, S, H⟩
      refine iv5 H n1 d1 n2 d2 nz ?_; clear n1 d1 n2 d2 nz; intro n1 d1 n2 d2 nz; replace HH := HH.trans H; clear H
      go_wp2_with fail
      refine ho hKK ⟨(S.c 0 2 rfl rfl), (S.c 1 2 rfl rfl)⟩ fun hS => ?_
      clear hKK KK
      refine rd 5 fun KK hKK => ?_
      go_simp; clear hS
      refine (S.call (wnat_any d2 HX.out.2.2 (y.den : Int) rfl)).mono ?_
      clear S
      rintro e w18 ⟨⟨_, rfl, pb, lb, Kb, rfl, nb⟩, S, H⟩
      refine iv6 H n1 d1 n2 d2 nz na ?_; clear n1 d1 n2 d2 nz na; intro n1 d1 n2 d2 nz na; replace HH := HH.trans H; clear H
      go_wp2_with fail
      refine ho hKK ⟨(S.c 0 2 rfl rfl), (S.c 1 2 rfl rfl)⟩ fun hS => ?_
      clear hKK KK
      refine rd 6 fun KK hKK => ?_
      go_simp; clear hS
      refine (S.call (wmul_to ⟨_, _, _, rfl, na⟩ ⟨_, _, _, rfl, nb⟩ HX.out.1.2 HX.out.2.2 D HD.out.2.1 HB.out.2)).mono ?_
      clear S
      rintro e w19 ⟨⟨_, rfl, pd, ld, Kd, rfl, nd⟩, S, H⟩
      refine iv7 H n1 d1 n2 d2 nz na nb ?_; clear n1 d1 n2 d2 nz na nb; intro n1 d1 n2 d2 nz na nb; replace HH := HH.trans H; clear H
      go_wp2_with fail
      refine ho hKK ⟨(S.c 0 2 rfl rfl), (S.c 1 2 rfl rfl)⟩ fun hS => ?_
      clear hKK KK
      refine tk 7 hS ?_
      refine tk 8 hS ?_
      refine tk 9 hS ?_
      refine rd 11 fun KK hKK => ?_
      have c0 := S.c 4 0 rfl rfl; have f0 := S.f 4 0 rfl; have c1 := S.c 4 1 rfl rfl; have f1 := S.f 4 1 rfl; go_simp; clear hS c0 f0 c1 f1
      have H := S.hset 4 0 (.bool (negB D)) rfl rfl (by intro q n e; cases e)
      replace S := S.set 4 0 (.bool (negB D)) rfl
      refine iv8 H n1 d1 n2 d2 nz na nb nd ?_; clear n1 d1 n2 d2 nz na nb nd; intro n1 d1 n2 d2 nz na nb nd; replace HH := HH.trans H; clear H
      have H := S.hset 4 1 (.slice pd ld Kd) rfl rfl (by intro q n e; cases e)
      replace S := S.set 4 1 (.slice pd ld Kd) rfl
      refine iv8 H n1 d1 n2 d2 nz na nb nd ?_; clear n1 d1 n2 d2 nz na nb nd; intro n1 d1 n2 d2 nz na nb nd; replace HH := HH.trans H; clear H
      refine ho hKK ⟨(S.c 0 2 rfl rfl), (S.c 1 2 rfl rfl)⟩ fun hS => ?_
      generalize ((w19.setCell ⟨w3.heap.size, 0, none⟩ (.bool (negB D))).setCell ⟨w3.heap.size, 1, none⟩ (.slice pd ld Kd)) = w20 at S n1 d1 n2 d2 nz na nb nd HH hS ⊢
      clear hKK KK
      refine rd 12 fun KK hKK => ?_
      go_simp
      refine ho hKK hS fun hS => ?_
      clear hKK KK
      refine wpAnyH_done (by kernel_rfl) ?_ _
      go_wp2_with fail
      go_meet
      case rel => exact ⟨w3.heap.size, pd, ld, Kd, rfl, rfl, S, nd, HH⟩
  case rest =>
    obtain ⟨g8, pd, ld, Kd, rfl, rfl, S, nd, HH⟩ := hcut
    obtain ⟨w21, rfl⟩ : ∃ W : World, W = wc := ⟨_, rfl⟩
    refine iv5 HH n1 d1 n2 d2 nz ?_; clear n1 d1 n2 d2 nz; intro n1 d1 n2 d2 nz; clear HH; obtain ⟨c0_0, c0_1, c0_2⟩ := S.c3 0 rfl; obtain ⟨c1_0, c1_1, c1_2⟩ := S.c3 1 rfl; obtain ⟨c2_0, c2_1, c2_2⟩ := S.c3 2 rfl; have c3_0 := S.c 3 0 rfl rfl; have c3_1 := S.c 3 1 rfl rfl; have c4_0 := S.c 4 0 rfl rfl; have c4_1 := S.c 4 1 rfl rfl
    go_upto_region 3 with fail
    clear c0_0 c0_1 c0_2 c1_0 c1_1 c1_2 c2_0 c2_1 c2_2 c3_0 c3_1 c4_0 c4_1
    have HH := Hold.drew w21
    refine iv6 HH n1 d1 n2 d2 nz nd ?_; clear n1 d1 n2 d2 nz nd; intro n1 d1 n2 d2 nz nd
    replace S := S.drew
    refine wp_region_held_drew (S := fun W => W.cell? ⟨w1.heap.size, 0, none⟩ = some (.bool (negB Z)) ∧ W.cell? ⟨w1.heap.size, 1, none⟩ = some (.slice pz lz Kz) ∧ W.cell? ⟨g8, 0, none⟩ = some (.bool (negB D)) ∧ W.cell? ⟨g8, 1, none⟩ = some (.slice pd ld Kd)) (by kernel_rfl) ⟨(S.c 3 0 rfl rfl), ⟨(S.c 3 1 rfl rfl), ⟨(S.c 4 0 rfl rfl), (S.c 4 1 rfl rfl)⟩⟩⟩ (fun hS => ?_)
    generalize w21.drew = w22 at S n1 d1 n2 d2 nz nd HH hS ⊢
    refine tk 0 hS ?_
    refine tk 1 hS ?_
    refine tk 2 hS ?_
    refine tk 3 hS ?_
    refine rd 4 fun KK hKK => ?_
    go_simp; clear hS
    have H := S.hnew 36 [.int .i64 0, .int .i64 0]
    replace S := S.al 36 [.int .i64 0, .int .i64 0] (w22.heap.size)
    refine iv6 H n1 d1 n2 d2 nz nd ?_; clear n1 d1 n2 d2 nz nd; intro n1 d1 n2 d2 nz nd; replace HH := HH.trans H; clear H
    refine ho hKK ⟨(S.c 3 0 rfl rfl), ⟨(S.c 3 1 rfl rfl), ⟨(S.c 4 0 rfl rfl), (S.c 4 1 rfl rfl)⟩⟩⟩ fun hS => ?_
    generalize (w22.alloc (.cells #[.int .i64 0, .int .i64 0] 36)) = w23 at S n1 d1 n2 d2 nz nd HH hS ⊢
    clear hKK KK
    refine rd 5 fun KK hKK => ?_
    go_simp; clear hS
    refine (S.call (or_two S 5 rfl)).mono ?_
    clear S
    rintro e w24 ⟨rfl, S, H⟩
    refine iv6 H n1 d1 n2 d2 nz nd ?_; clear n1 d1 n2 d2 nz nd; intro n1 d1 n2 d2 nz nd; replace HH := HH.trans H; clear H
    go_wp2_with fail
    refine ho hKK ⟨(S.c 3 0 rfl rfl), ⟨(S.c 3 1 rfl rfl), ⟨(S.c 4 0 rfl rfl), (S.c 4 1 rfl rfl)⟩⟩⟩ fun hS => ?_
    clear hKK KK
    refine rd 6 fun KK hKK => ?_
    go_simp; clear hS
    refine (S.call (over_any ⟨_, _, _, rfl, nz⟩ ⟨_, _, _, rfl, nd⟩ HB.out.1 HB.out.2 HD.out.2.2.2 q HD.out.2.2.1)).mono ?_
    clear S
    rintro e w25 ⟨⟨_, rfl, b, p, l, K, q', j, J, rfl, hb, nn, dd⟩, S, H⟩
    refine iv6 H n1 d1 n2 d2 nz nd ?_; clear n1 d1 n2 d2 nz nd; intro n1 d1 n2 d2 nz nd; replace HH := HH.trans H; clear H
    go_wp2_with fail
    refine ho hKK ⟨(S.c 3 0 rfl rfl), ⟨(S.c 3 1 rfl rfl), ⟨(S.c 4 0 rfl rfl), (S.c 4 1 rfl rfl)⟩⟩⟩ fun hS => ?_
    clear hKK KK
    refine tk 7 hS ?_
    refine tk 8 hS ?_
    refine rd 9 fun KK hKK => ?_
    obtain ⟨c0, c1, c2⟩ := S.c3 2 rfl; obtain ⟨f0, f1, f2⟩ := S.f3 2 rfl
    go_simp; clear hS c0 f0 c1 f1 c2 f2
    have HP := S.putq 2 (.bool b) (.slice p l K) (.slice q' j J) rfl rfl; have H := HP.2; replace S := HP.1; clear HP
    refine iv8 H n1 d1 n2 d2 nz nd nn dd ?_; clear n1 d1 n2 d2 nz nd nn dd; intro n1 d1 n2 d2 nz nd nn dd; replace HH := HH.trans H; clear H
    refine ho hKK ⟨(S.c 3 0 rfl rfl), ⟨(S.c 3 1 rfl rfl), ⟨(S.c 4 0 rfl rfl), (S.c 4 1 rfl rfl)⟩⟩⟩ fun hS => ?_
    generalize (((w25.setCell ⟨w.heap.size + 1 + 1, 0, none⟩ (.bool b)).setCell ⟨w.heap.size + 1 + 1, 1, none⟩ (.slice p l K)).setCell ⟨w.heap.size + 1 + 1, 2, none⟩ (.slice q' j J)) = w26 at S n1 d1 n2 d2 nz nd nn dd HH hS ⊢
    clear hKK KK
    refine rd 10 fun KK hKK => ?_
    go_simp
    refine ho hKK hS fun hS => ?_
    clear hKK KK
    refine wpAnyH_done (by kernel_rfl) ?_ _
    clear hS HH; obtain ⟨c0_0, c0_1, c0_2⟩ := S.c3 0 rfl; obtain ⟨c1_0, c1_1, c1_2⟩ := S.c3 1 rfl; obtain ⟨c2_0, c2_1, c2_2⟩ := S.c3 2 rfl; have c3_0 := S.c 3 0 rfl rfl; have c3_1 := S.c 3 1 rfl rfl; have c4_0 := S.c 4 0 rfl rfl; have c4_1 := S.c 4 1 rfl rfl; go_wp2_with fail; obtain ⟨d2_0, d2_1, d2_2⟩ := S.c3 2 rfl
    exact bodyPost_ret (v := .tuple #[.agg #[.bool b, .slice p l K, .slice q' j J], .int .i64 0]) (by simp [results, Tryz.f20, go_sem, d2_0, d2_1, d2_2]) rfl (⟨⟨_, rfl, b, p, l, K, q', j, J, rfl, hb, nn, dd⟩, S.below⟩)
end Go.Proofs.YtcfgefbkeeedgaaGreatDoor
