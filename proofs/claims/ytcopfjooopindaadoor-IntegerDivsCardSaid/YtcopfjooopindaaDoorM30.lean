/-
  girdlelaw03.IntegerDivs, as a walk: whatever the two numbers, it returns true.
-/
import Derived.Test.YtcopfjooopindaaDoorM23

namespace Go.Proofs.YtcopfjooopindaaDoor
open Go.RowKit

set_option maxRecDepth 100000 in
set_option maxHeartbeats 2000000 in
theorem wdiv_zero (b1 b2 : Bool) {p1 p2 : Option Addr} {l1 l2 K1 K2 m : Nat} {w : World} (n1 : IsNat w (.slice p1 l1 K1) m) (n2 : IsNat w (.slice p2 l2 K2) 0) (hm : m < maxN) :
    Calls Tryd.prog 20 #[.agg #[.bool b1, .slice p1 l1 K1], .agg #[.bool b2, .slice p2 l2 K2]] w fun e w' => e = .returned (.tuple #[.agg #[.bool false, .slice none 0 0], .agg #[.bool false, .slice none 0 0], .int .i64 10]) ∧ Below w.heap.size w w' := by
  have HM := Lib.hid hm
  clear hm
  have S := ((((St.start w).alloc 25 [.bool b1, .slice p1 l1 K1] (w.heap.size)).alloc 25 [.bool b2, .slice p2 l2 K2] (w.heap.size + 1)).alloc 25 [.bool false, .slice none 0 0] (w.heap.size + 1 + 1)).alloc 25 [.bool false, .slice none 0 0] (w.heap.size + 1 + 1 + 1)
  replace n1 := n1.hold S.hold
  replace n2 := n2.hold S.hold
  have c0_0 := S.c 0 0 rfl rfl
  have c0_1 := S.c 0 1 rfl rfl
  have c1_0 := S.c 1 0 rfl rfl
  have c1_1 := S.c 1 1 rfl rfl
  have c2_0 := S.c 2 0 rfl rfl
  have c2_1 := S.c 2 1 rfl rfl
  have c3_0 := S.c 3 0 rfl rfl
  have c3_1 := S.c 3 1 rfl rfl
  go_enter Tryd.func20, Tryd.ntmps20
  go_wp2_with fail
  clear c0_0 c0_1 c1_0 c1_1 c2_0 c2_1 c3_0 c3_1
  refine (S.call (div_nil n1 n2 HM.out)).mono ?_
  clear S
  rintro e w1 ⟨rfl, S, H⟩
  replace n1 := n1.hold H
  replace n2 := n2.hold H
  clear H
  have c0_0 := S.c 0 0 rfl rfl
  have c0_1 := S.c 0 1 rfl rfl
  have c1_0 := S.c 1 0 rfl rfl
  have c1_1 := S.c 1 1 rfl rfl
  have c2_0 := S.c 2 0 rfl rfl
  have c2_1 := S.c 2 1 rfl rfl
  have c3_0 := S.c 3 0 rfl rfl
  have c3_1 := S.c 3 1 rfl rfl
  have f2_0 := S.f 2 0 rfl
  have H := S.hset 2 0 (.bool false) rfl rfl (by intro q n e; cases e)
  replace S := S.set 2 0 (.bool false) rfl
  replace n1 := n1.hold H
  replace n2 := n2.hold H
  clear H
  have f2_1 := S.f 2 1 rfl
  have H := S.hset 2 1 (.slice none 0 0) rfl rfl (by intro q n e; cases e)
  replace S := S.set 2 1 (.slice none 0 0) rfl
  replace n1 := n1.hold H
  replace n2 := n2.hold H
  clear H
  have f3_0 := S.f 3 0 rfl
  have H := S.hset 3 0 (.bool false) rfl rfl (by intro q n e; cases e)
  replace S := S.set 3 0 (.bool false) rfl
  replace n1 := n1.hold H
  replace n2 := n2.hold H
  clear H
  have f3_1 := S.f 3 1 rfl
  have H := S.hset 3 1 (.slice none 0 0) rfl rfl (by intro q n e; cases e)
  replace S := S.set 3 1 (.slice none 0 0) rfl
  replace n1 := n1.hold H
  replace n2 := n2.hold H
  clear H
  go_wp2_with fail
  have d2_0 := S.c 2 0 rfl rfl
  have d2_1 := S.c 2 1 rfl rfl
  have d3_0 := S.c 3 0 rfl rfl
  have d3_1 := S.c 3 1 rfl rfl
  exact bodyPost_ret (v := .tuple #[.agg #[.bool false, .slice none 0 0], .agg #[.bool false, .slice none 0 0], .int .i64 10]) (by simp [results, Tryd.f20, go_sem, d2_0, d2_1, d3_0, d3_1]) rfl (⟨rfl, S.below⟩)

set_option maxRecDepth 100000 in
set_option maxHeartbeats 8000000 in
theorem integerDivs_any (b1 b2 : Bool) (p1 p2 : Option Addr) (K1 K2 : Nat) (ds1 ds2 : List Nat) (w : World) (hT : Tab w) (at1 : At .u32 w p1 K1 ds1) (at2 : At .u32 w p2 K2 ds2) (d1 : Dig 4294967296 ds1) (d2 : Dig 4294967296 ds2) :
    Calls Tryd.prog 5 #[.agg #[.bool b1, .slice p1 ds1.length K1], .agg #[.bool b2, .slice p2 ds2.length K2]] w fun e w' => e = .returned (.bool true) ∧ Below w.heap.size w w' := by
  have HT := Lib.hid hT
  have HD := Lib.hid (And.intro d1 d2)
  obtain ⟨l1, hl1⟩ : ∃ l, ds1.length = l := ⟨_, rfl⟩
  obtain ⟨l2, hl2⟩ : ∃ l, ds2.length = l := ⟨_, rfl⟩
  have HL := Lib.hid (And.intro hl1 hl2)
  rw [hl1, hl2]
  clear hT d1 d2 hl1 hl2
  have S := ((St.start w).alloc 25 [.bool b1, .slice p1 l1 K1] (w.heap.size)).alloc 25 [.bool b2, .slice p2 l2 K2] (w.heap.size + 1)
  replace at1 := at1.hold S.hold
  replace at2 := at2.hold S.hold
  have c0_0 := S.c 0 0 rfl rfl
  have c0_1 := S.c 0 1 rfl rfl
  have c1_0 := S.c 1 0 rfl rfl
  have c1_1 := S.c 1 1 rfl rfl
  go_enter Tryd.func5, Tryd.ntmps5
  go_wp2_with fail
  clear c0_0 c0_1 c1_0 c1_1
  refine (S.call (counts_any _ (HT.out.below S.below))).mono ?_
  clear S
  rintro e w1 ⟨rfl, S, H⟩
  replace at1 := at1.hold H
  replace at2 := at2.hold H
  clear H
  have c0_0 := S.c 0 0 rfl rfl
  have c0_1 := S.c 0 1 rfl rfl
  have c1_0 := S.c 1 0 rfl rfl
  have c1_1 := S.c 1 1 rfl rfl
  have H := S.hnew 25 [.bool b1, .slice p1 l1 K1, .bool b2, .slice p2 l2 K2]
  replace S := S.alloc 25 [.bool b1, .slice p1 l1 K1, .bool b2, .slice p2 l2 K2] (w1.heap.size)
  replace at1 := at1.hold H
  replace at2 := at2.hold H
  clear H
  go_wp2_with fail
  clear c0_0 c0_1 c1_0 c1_1
  refine (S.call (wfit_any _ 2 _ _ _ _ _ (S.lt 2 rfl) (by decide) (raws2 S 2 rfl HL.out.1 HL.out.2 at1 at2 HD.out.1 HD.out.2))).mono ?_
  clear S
  rintro e w2 ⟨⟨b, rfl, hb⟩, S, H⟩
  replace at1 := at1.hold H
  replace at2 := at2.hold H
  clear H
  have c0_0 := S.c 0 0 rfl rfl
  have c0_1 := S.c 0 1 rfl rfl
  have c1_0 := S.c 1 0 rfl rfl
  have c1_1 := S.c 1 1 rfl rfl
  cases b with
  | false =>
    go_wp2_with fail
    exact bodyPost_ret (v := .bool true) (by simp [results, Tryd.f5, go_sem]) rfl (⟨rfl, S.below⟩)
  | true =>
    have t := hb.out rfl
    have T1 : Tried3 30 b1 ds1 := t 0 (by decide)
    have T2 : Tried3 30 b2 ds2 := t 1 (by decide)
    obtain ⟨z1, hz1, hm1, N1⟩ := tried_int T1 HD.out.1 HL.out.1 at1
    obtain ⟨z2, hz2, hm2, N2⟩ := tried_int T2 HD.out.2 HL.out.2 at2
    have M1 := Lib.hid hm1
    have M2 := Lib.hid hm2
    clear at1 at2
    clear t hb T1 T2 hm1 hm2
    have hlen := N2.len
    by_cases h0 : z2 = 0
    · subst h0
      obtain rfl : l2 = 0 := hlen.1 rfl
      clear hlen
      go_wp2_with fail
      clear c0_0 c0_1 c1_0 c1_1
      refine (S.call (wdiv_zero b1 b2 N1 N2 (nb_max M1.out (by decide)))).mono ?_
      clear S
      rintro e w3 ⟨rfl, S, H⟩
      replace N1 := N1.hold H
      replace N2 := N2.hold H
      clear H
      have c0_0 := S.c 0 0 rfl rfl
      have c0_1 := S.c 0 1 rfl rfl
      have c1_0 := S.c 1 0 rfl rfl
      have c1_1 := S.c 1 1 rfl rfl
      have H := S.hnew 25 [.bool false, .slice none 0 0]
      replace S := S.alloc 25 [.bool false, .slice none 0 0] (w3.heap.size)
      replace N1 := N1.hold H
      replace N2 := N2.hold H
      clear H
      have H := S.hnew 25 [.bool false, .slice none 0 0]
      replace S := S.alloc 25 [.bool false, .slice none 0 0] (w3.heap.size + 1)
      replace N1 := N1.hold H
      replace N2 := N2.hold H
      clear H
      clear c0_0 c0_1 c1_0 c1_1
      have c0_0 := S.c 0 0 rfl rfl
      have c0_1 := S.c 0 1 rfl rfl
      have c1_0 := S.c 1 0 rfl rfl
      have c1_1 := S.c 1 1 rfl rfl
      have c3_0 := S.c 3 0 rfl rfl
      have c3_1 := S.c 3 1 rfl rfl
      have c4_0 := S.c 4 0 rfl rfl
      have c4_1 := S.c 4 1 rfl rfl
      go_wp2_with fail
      clear c0_0 c0_1 c1_0 c1_1 c3_0 c3_1 c4_0 c4_1
      refine (S.call (wsign_any (z := 0) (s := 0) ⟨none, 0, 0, rfl, ⟨[], .nil _ _, Can.nil _, rfl⟩⟩ (lit_max _ (by decide)) rfl)).mono ?_
      clear S
      rintro e w4 ⟨rfl, S, H⟩
      replace N1 := N1.hold H
      replace N2 := N2.hold H
      clear H
      have c0_0 := S.c 0 0 rfl rfl
      have c0_1 := S.c 0 1 rfl rfl
      have c1_0 := S.c 1 0 rfl rfl
      have c1_1 := S.c 1 1 rfl rfl
      have c3_0 := S.c 3 0 rfl rfl
      have c3_1 := S.c 3 1 rfl rfl
      have c4_0 := S.c 4 0 rfl rfl
      have c4_1 := S.c 4 1 rfl rfl
      go_wp2_with fail
      clear c0_0 c0_1 c1_0 c1_1 c3_0 c3_1 c4_0 c4_1
      refine (S.call (wsign_any (z := 0) (s := 0) ⟨none, 0, 0, rfl, ⟨[], .nil _ _, Can.nil _, rfl⟩⟩ (lit_max _ (by decide)) rfl)).mono ?_
      clear S
      rintro e w5 ⟨rfl, S, H⟩
      replace N1 := N1.hold H
      replace N2 := N2.hold H
      clear H
      have c0_0 := S.c 0 0 rfl rfl
      have c0_1 := S.c 0 1 rfl rfl
      have c1_0 := S.c 1 0 rfl rfl
      have c1_1 := S.c 1 1 rfl rfl
      have c3_0 := S.c 3 0 rfl rfl
      have c3_1 := S.c 3 1 rfl rfl
      have c4_0 := S.c 4 0 rfl rfl
      have c4_1 := S.c 4 1 rfl rfl
      go_wp2_with fail
      exact bodyPost_ret (v := .bool true) (by simp [results, Tryd.f5, go_sem]) rfl (⟨rfl, S.below⟩)
    · have hl0 : ¬ l2 = 0 := fun e => h0 (by have := hlen.2 e; omega)
      have hlI : ((l2 : Int) == 0) = false := by simpa using hl0
      have H0 := Lib.hid h0
      clear hlen h0 hl0
      obtain ⟨zq, hzq⟩ : ∃ z, z1 / z2 = z := ⟨_, rfl⟩
      obtain ⟨zr, hzr⟩ : ∃ z, z1 % z2 = z := ⟨_, rfl⟩
      obtain ⟨zp, hzp⟩ : ∃ z, zq * z2 = z := ⟨_, rfl⟩
      have r0 : 0 ≤ zr := hzr ▸ Int.emod_nonneg _ H0.out
      have r1 : zr < z2.natAbs := hzr ▸ Int.emod_lt _ H0.out
      have hpr : zp + zr = z1 := by rw [← hzp, ← hzr, ← hzq, Int.mul_comm]; exact Int.mul_ediv_add_emod z1 z2
      have BQ := Lib.hid (show zq.natAbs < NB 30 from hzq ▸ Nat.lt_of_le_of_lt (Int.natAbs_ediv_le_natAbs _ _) M1.out)
      have BR := Lib.hid (show zr.natAbs < NB 30 by have := M2.out; omega)
      have BP := Lib.hid (show zp.natAbs < NB 60 from hzp ▸ nbz_mul BQ.out M2.out)
      have HQ := Lib.hid hzq; have HR := Lib.hid hzr; have HP := Lib.hid hzp; have HPR := Lib.hid hpr
      have R0 := Lib.hid (And.intro r0 r1)
      obtain ⟨sg, hsg⟩ : ∃ s, zr.sign = s := ⟨_, rfl⟩
      have hs0 : 0 ≤ sg := by rw [← hsg]; exact Int.sign_nonneg_iff.2 r0
      have HSG := Lib.hid hsg
      clear hzq hzr hzp hpr r0 r1 hsg
      go_wp2_with fail
      clear c0_0 c0_1 c1_0 c1_1
      refine (S.call (wdiv_to ⟨_, _, _, by rw [hz1.out], N1⟩ ⟨_, _, _, by rw [hz2.out], N2⟩ (nb_max M1.out (by decide)) (nb_max M2.out (by decide)) zq zr H0.out HQ.out HR.out)).mono ?_
      clear S
      rintro e w3 ⟨⟨_, _, rfl, ⟨pq, lq, Kq, rfl, nq⟩, ⟨pr, lr, Kr, rfl, nr⟩⟩, S, H⟩
      replace N1 := N1.hold H
      replace N2 := N2.hold H
      clear H
      have c0_0 := S.c 0 0 rfl rfl
      have c0_1 := S.c 0 1 rfl rfl
      have c1_0 := S.c 1 0 rfl rfl
      have c1_1 := S.c 1 1 rfl rfl
      have H := S.hnew 25 [.bool (negB zq), .slice pq lq Kq]
      replace S := S.alloc 25 [.bool (negB zq), .slice pq lq Kq] (w3.heap.size)
      replace N1 := N1.hold H
      replace N2 := N2.hold H
      replace nq := nq.hold H
      replace nr := nr.hold H
      clear H
      have H := S.hnew 25 [.bool (negB zr), .slice pr lr Kr]
      replace S := S.alloc 25 [.bool (negB zr), .slice pr lr Kr] (w3.heap.size + 1)
      replace N1 := N1.hold H
      replace N2 := N2.hold H
      replace nq := nq.hold H
      replace nr := nr.hold H
      clear H
      clear c0_0 c0_1 c1_0 c1_1
      have c0_0 := S.c 0 0 rfl rfl
      have c0_1 := S.c 0 1 rfl rfl
      have c1_0 := S.c 1 0 rfl rfl
      have c1_1 := S.c 1 1 rfl rfl
      have c3_0 := S.c 3 0 rfl rfl
      have c3_1 := S.c 3 1 rfl rfl
      have c4_0 := S.c 4 0 rfl rfl
      have c4_1 := S.c 4 1 rfl rfl
      go_wp2_with fail
      clear c0_0 c0_1 c1_0 c1_1 c3_0 c3_1 c4_0 c4_1
      refine (S.call (wmul_to ⟨_, _, _, rfl, nq⟩ ⟨_, _, _, by rw [hz2.out], N2⟩ (nb_max BQ.out (by decide)) (nb_max M2.out (by decide)) zp HP.out (nb_max BP.out (by decide)))).mono ?_
      clear S
      rintro e w4 ⟨⟨_, rfl, pp, lp, Kp, rfl, np⟩, S, H⟩
      replace N1 := N1.hold H
      replace N2 := N2.hold H
      replace nq := nq.hold H
      replace nr := nr.hold H
      clear H
      have c0_0 := S.c 0 0 rfl rfl
      have c0_1 := S.c 0 1 rfl rfl
      have c1_0 := S.c 1 0 rfl rfl
      have c1_1 := S.c 1 1 rfl rfl
      have c3_0 := S.c 3 0 rfl rfl
      have c3_1 := S.c 3 1 rfl rfl
      have c4_0 := S.c 4 0 rfl rfl
      have c4_1 := S.c 4 1 rfl rfl
      have H := S.hnew 25 [.bool (negB zp), .slice pp lp Kp]
      replace S := S.alloc 25 [.bool (negB zp), .slice pp lp Kp] (w4.heap.size)
      replace N1 := N1.hold H
      replace N2 := N2.hold H
      replace nq := nq.hold H
      replace nr := nr.hold H
      replace np := np.hold H
      clear H
      clear c0_0 c0_1 c1_0 c1_1 c3_0 c3_1 c4_0 c4_1
      have c0_0 := S.c 0 0 rfl rfl
      have c0_1 := S.c 0 1 rfl rfl
      have c1_0 := S.c 1 0 rfl rfl
      have c1_1 := S.c 1 1 rfl rfl
      have c3_0 := S.c 3 0 rfl rfl
      have c3_1 := S.c 3 1 rfl rfl
      have c4_0 := S.c 4 0 rfl rfl
      have c4_1 := S.c 4 1 rfl rfl
      have c5_0 := S.c 5 0 rfl rfl
      have c5_1 := S.c 5 1 rfl rfl
      go_wp2_with fail
      clear c0_0 c0_1 c1_0 c1_1 c3_0 c3_1 c4_0 c4_1 c5_0 c5_1
      refine (S.call (wadd_to ⟨_, _, _, rfl, np⟩ ⟨_, _, _, rfl, nr⟩ (nb_max BP.out (by decide)) (nb_max BR.out (by decide)) z1 HPR.out (nb_max M1.out (by decide)))).mono ?_
      clear S
      rintro e w5 ⟨⟨_, rfl, ps, ls, Ks, rfl, ns⟩, S, H⟩
      replace N1 := N1.hold H
      replace N2 := N2.hold H
      replace nq := nq.hold H
      replace nr := nr.hold H
      replace np := np.hold H
      clear H
      have c0_0 := S.c 0 0 rfl rfl
      have c0_1 := S.c 0 1 rfl rfl
      have c1_0 := S.c 1 0 rfl rfl
      have c1_1 := S.c 1 1 rfl rfl
      have c3_0 := S.c 3 0 rfl rfl
      have c3_1 := S.c 3 1 rfl rfl
      have c4_0 := S.c 4 0 rfl rfl
      have c4_1 := S.c 4 1 rfl rfl
      have c5_0 := S.c 5 0 rfl rfl
      have c5_1 := S.c 5 1 rfl rfl
      have H := S.hnew 25 [.bool (negB z1), .slice ps ls Ks]
      replace S := S.alloc 25 [.bool (negB z1), .slice ps ls Ks] (w5.heap.size)
      replace N1 := N1.hold H
      replace N2 := N2.hold H
      replace nq := nq.hold H
      replace nr := nr.hold H
      replace np := np.hold H
      replace ns := ns.hold H
      clear H
      clear c0_0 c0_1 c1_0 c1_1 c3_0 c3_1 c4_0 c4_1 c5_0 c5_1
      have c0_0 := S.c 0 0 rfl rfl
      have c0_1 := S.c 0 1 rfl rfl
      have c1_0 := S.c 1 0 rfl rfl
      have c1_1 := S.c 1 1 rfl rfl
      have c3_0 := S.c 3 0 rfl rfl
      have c3_1 := S.c 3 1 rfl rfl
      have c4_0 := S.c 4 0 rfl rfl
      have c4_1 := S.c 4 1 rfl rfl
      have c5_0 := S.c 5 0 rfl rfl
      have c5_1 := S.c 5 1 rfl rfl
      have c6_0 := S.c 6 0 rfl rfl
      have c6_1 := S.c 6 1 rfl rfl
      go_upto_region 10 with fail
      clear c0_0 c0_1 c1_0 c1_1 c3_0 c3_1 c4_0 c4_1 c5_0 c5_1 c6_0 c6_1
      replace N1 := N1.hold (Hold.drew _)
      replace N2 := N2.hold (Hold.drew _)
      replace nq := nq.hold (Hold.drew _)
      replace nr := nr.hold (Hold.drew _)
      replace np := np.hold (Hold.drew _)
      replace ns := ns.hold (Hold.drew _)
      replace S := S.drew
      have tok1 := Lib.hid trivial
      have tok2 := Lib.hid trivial
      have tok3 := Lib.hid trivial
      have tok4 := Lib.hid trivial
      have tok5 := Lib.hid trivial
      have tok6 := Lib.hid trivial
      go_region_held3 (fun W => W.cell? ⟨w5.heap.size, 0, none⟩ = some (.bool (negB z1)) ∧ W.cell? ⟨w5.heap.size, 1, none⟩ = some (.slice ps ls Ks) ∧ W.cell? ⟨w.heap.size, 0, none⟩ = some (.bool b1) ∧ W.cell? ⟨w.heap.size, 1, none⟩ = some (.slice p1 l1 K1) ∧ W.cell? ⟨w3.heap.size + 1, 0, none⟩ = some (.bool (negB zr)) ∧ W.cell? ⟨w3.heap.size + 1, 1, none⟩ = some (.slice pr lr Kr) ∧ W.cell? ⟨w.heap.size + 1, 0, none⟩ = some (.bool b2) ∧ W.cell? ⟨w.heap.size + 1, 1, none⟩ = some (.slice p2 l2 K2) ∧ W.cell? ⟨w3.heap.size, 0, none⟩ = some (.bool (negB zq)) ∧ W.cell? ⟨w3.heap.size, 1, none⟩ = some (.slice pq lq Kq))
        (first | exact ⟨S.c 6 0 rfl rfl, S.c 6 1 rfl rfl, S.c 0 0 rfl rfl, S.c 0 1 rfl rfl, S.c 4 0 rfl rfl, S.c 4 1 rfl rfl, S.c 1 0 rfl rfl, S.c 1 1 rfl rfl, S.c 3 0 rfl rfl, S.c 3 1 rfl rfl⟩)
        (first
          | (clear tok1; go_at_call 17; refine (S.call (wsame_any ⟨_, _, _, rfl, ns⟩ ⟨_, _, _, by rw [hz1.out], N1⟩ (nb_max M1.out (by decide)) (nb_max M1.out (by decide)) (r := true) (cmp_same z1))).mono ?_; clear S; rintro e w6 ⟨rfl, S, H⟩; replace N1 := N1.hold H; replace N2 := N2.hold H; replace nq := nq.hold H; replace nr := nr.hold H; replace np := np.hold H; replace ns := ns.hold H; clear H)
          | (clear tok2; go_at_call 21; refine (S.call (wsign_any ⟨_, _, _, rfl, nr⟩ (nb_max BR.out (by decide)) HSG.out)).mono ?_; clear S; rintro e w7 ⟨rfl, S, H⟩; replace N1 := N1.hold H; replace N2 := N2.hold H; replace nq := nq.hold H; replace nr := nr.hold H; replace np := np.hold H; replace ns := ns.hold H; clear H)
          | (clear tok3; go_at_call 23; refine (S.call (wabs_any ⟨_, _, _, by rw [hz2.out], N2⟩ (nb_max M2.out (by decide)) _ rfl)).mono ?_; clear S; rintro e w8 ⟨⟨_, rfl, pa, la, Ka, rfl, na⟩, S, H⟩; replace N1 := N1.hold H; replace N2 := N2.hold H; replace nq := nq.hold H; replace nr := nr.hold H; replace np := np.hold H; replace ns := ns.hold H; clear H)
          | (clear tok4; go_at_call 22; refine (S.call (wcompare_to ⟨_, _, _, rfl, nr⟩ ⟨_, _, _, rfl, na⟩ (nb_max BR.out (by decide)) (nb_max M2.out (by decide)) (-1) (cmpI_lt R0.out.2))).mono ?_; clear S; rintro e w9 ⟨rfl, S, H⟩; replace N1 := N1.hold H; replace N2 := N2.hold H; replace nq := nq.hold H; replace nr := nr.hold H; replace np := np.hold H; replace ns := ns.hold H; replace na := na.hold H; clear H)
          | (clear tok5; go_at_call 24; refine (S.call (wcheck_any ⟨_, _, _, rfl, nq⟩ (nb_max BQ.out (by decide)))).mono ?_; clear S; rintro e w10 ⟨rfl, S, H⟩; replace N1 := N1.hold H; replace N2 := N2.hold H; replace nq := nq.hold H; replace nr := nr.hold H; replace np := np.hold H; replace ns := ns.hold H; replace na := na.hold H; clear H)
          | (clear tok6; go_at_call 24; refine (S.call (wcheck_any ⟨_, _, _, rfl, nr⟩ (nb_max BR.out (by decide)))).mono ?_; clear S; rintro e w11 ⟨rfl, S, H⟩; replace N1 := N1.hold H; replace N2 := N2.hold H; replace nq := nq.hold H; replace nr := nr.hold H; replace np := np.hold H; replace ns := ns.hold H; replace na := na.hold H; clear H))
      go_wp2_with fail
      exact bodyPost_ret (v := .bool true) (by simp [results, Tryd.f5, go_sem]) rfl (⟨rfl, S.below⟩)

end Go.Proofs.YtcopfjooopindaaDoor
