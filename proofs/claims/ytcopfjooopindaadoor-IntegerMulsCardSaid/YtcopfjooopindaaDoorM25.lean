/-
  girdlelaw03.IntegerMuls, as a walk: whatever the three numbers, it returns true.
-/
import Derived.Test.YtcopfjooopindaaDoorM23
import Derived.Test.YtcopfjooopindaaDoorM24

namespace Go.Proofs.YtcopfjooopindaaDoor
open Go.RowKit

set_option maxRecDepth 100000 in
set_option maxHeartbeats 8000000 in
theorem integerMuls_any (b1 b2 b3 : Bool) (p1 p2 p3 : Option Addr) (K1 K2 K3 : Nat) (ds1 ds2 ds3 : List Nat) (w : World) (hT : Tab w) (at1 : At .u32 w p1 K1 ds1) (at2 : At .u32 w p2 K2 ds2) (at3 : At .u32 w p3 K3 ds3) (d1 : Dig 4294967296 ds1) (d2 : Dig 4294967296 ds2) (d3 : Dig 4294967296 ds3) :
    Calls Tryd.prog 4 #[.agg #[.bool b1, .slice p1 ds1.length K1], .agg #[.bool b2, .slice p2 ds2.length K2], .agg #[.bool b3, .slice p3 ds3.length K3]] w fun e w' => e = .returned (.bool true) ∧ Below w.heap.size w w' := by
  have HT := Lib.hid hT
  have HD := Lib.hid (And.intro d1 (And.intro d2 d3))
  obtain ⟨l1, hl1⟩ : ∃ l, ds1.length = l := ⟨_, rfl⟩
  obtain ⟨l2, hl2⟩ : ∃ l, ds2.length = l := ⟨_, rfl⟩
  obtain ⟨l3, hl3⟩ : ∃ l, ds3.length = l := ⟨_, rfl⟩
  have HL := Lib.hid (And.intro hl1 (And.intro hl2 hl3))
  rw [hl1, hl2, hl3]
  clear hT d1 d2 d3 hl1 hl2 hl3
  have S := (((St.start w).alloc 25 [.bool b1, .slice p1 l1 K1] (w.heap.size)).alloc 25 [.bool b2, .slice p2 l2 K2] (w.heap.size + 1)).alloc 25 [.bool b3, .slice p3 l3 K3] (w.heap.size + 1 + 1)
  replace at1 := at1.hold S.hold
  replace at2 := at2.hold S.hold
  replace at3 := at3.hold S.hold
  have c0_0 := S.c 0 0 rfl rfl
  have c0_1 := S.c 0 1 rfl rfl
  have c1_0 := S.c 1 0 rfl rfl
  have c1_1 := S.c 1 1 rfl rfl
  have c2_0 := S.c 2 0 rfl rfl
  have c2_1 := S.c 2 1 rfl rfl
  go_enter Tryd.func4, Tryd.ntmps4
  go_wp2_with fail
  clear c0_0 c0_1 c1_0 c1_1 c2_0 c2_1
  refine (S.call (counts_any _ (HT.out.below S.below))).mono ?_
  clear S
  rintro e w1 ⟨rfl, S, H⟩
  replace at1 := at1.hold H
  replace at2 := at2.hold H
  replace at3 := at3.hold H
  clear H
  have c0_0 := S.c 0 0 rfl rfl
  have c0_1 := S.c 0 1 rfl rfl
  have c1_0 := S.c 1 0 rfl rfl
  have c1_1 := S.c 1 1 rfl rfl
  have c2_0 := S.c 2 0 rfl rfl
  have c2_1 := S.c 2 1 rfl rfl
  have H := S.hnew 25 [.bool b1, .slice p1 l1 K1, .bool b2, .slice p2 l2 K2, .bool b3, .slice p3 l3 K3]
  replace S := S.alloc 25 [.bool b1, .slice p1 l1 K1, .bool b2, .slice p2 l2 K2, .bool b3, .slice p3 l3 K3] (w1.heap.size)
  replace at1 := at1.hold H
  replace at2 := at2.hold H
  replace at3 := at3.hold H
  clear H
  go_wp2_with fail
  clear c0_0 c0_1 c1_0 c1_1 c2_0 c2_1
  refine (S.call (wfit_any _ 3 _ _ _ _ _ (S.lt 3 rfl) (by decide) (raws3 S 3 rfl HL.out.1 HL.out.2.1 HL.out.2.2 at1 at2 at3 HD.out.1 HD.out.2.1 HD.out.2.2))).mono ?_
  clear S
  rintro e w2 ⟨⟨b, rfl, hb⟩, S, H⟩
  replace at1 := at1.hold H
  replace at2 := at2.hold H
  replace at3 := at3.hold H
  clear H
  have c0_0 := S.c 0 0 rfl rfl
  have c0_1 := S.c 0 1 rfl rfl
  have c1_0 := S.c 1 0 rfl rfl
  have c1_1 := S.c 1 1 rfl rfl
  have c2_0 := S.c 2 0 rfl rfl
  have c2_1 := S.c 2 1 rfl rfl
  cases b with
  | false =>
    go_wp2_with fail
    exact bodyPost_ret (v := .bool true) (by simp [results, Tryd.f4, go_sem]) rfl (⟨rfl, S.below⟩)
  | true =>
    have t := hb.out rfl
    have T1 : Tried3 30 b1 ds1 := t 0 (by decide)
    have T2 : Tried3 30 b2 ds2 := t 1 (by decide)
    have T3 : Tried3 30 b3 ds3 := t 2 (by decide)
    obtain ⟨z1, hz1, hm1, N1⟩ := tried_int T1 HD.out.1 HL.out.1 at1
    obtain ⟨z2, hz2, hm2, N2⟩ := tried_int T2 HD.out.2.1 HL.out.2.1 at2
    obtain ⟨z3, hz3, hm3, N3⟩ := tried_int T3 HD.out.2.2 HL.out.2.2 at3
    have M1 := Lib.hid hm1
    have M2 := Lib.hid hm2
    have M3 := Lib.hid hm3
    clear at1 at2 at3
    clear t hb T1 T2 T3 hm1 hm2 hm3
    obtain ⟨zp, hzp⟩ : ∃ z, z1 * z2 = z := ⟨_, rfl⟩
    obtain ⟨zq, hzq⟩ : ∃ z, z1 * z3 = z := ⟨_, rfl⟩
    obtain ⟨zs, hzs⟩ : ∃ z, z2 + z3 = z := ⟨_, rfl⟩
    obtain ⟨zm, hzm⟩ : ∃ z, z1 * zs = z := ⟨_, rfl⟩
    have BP := Lib.hid (show zp.natAbs < NB 60 from hzp ▸ nbz_mul M1.out M2.out)
    have BQ := Lib.hid (show zq.natAbs < NB 60 from hzq ▸ nbz_mul M1.out M3.out)
    have BS := Lib.hid (show zs.natAbs < NB 31 from hzs ▸ nbz_add M2.out M3.out)
    have BM := Lib.hid (show zm.natAbs < NB 61 from hzm ▸ nbz_mul M1.out BS.out)
    have HPM := Lib.hid (show zp + zq = zm by rw [← hzp, ← hzq, ← hzm, ← hzs, Int.mul_add])
    have HP := Lib.hid hzp; have HQ := Lib.hid hzq; have HSS := Lib.hid hzs; have HM := Lib.hid hzm
    clear hzp hzq hzs hzm
    go_wp2_with fail
    clear c0_0 c0_1 c1_0 c1_1 c2_0 c2_1
    refine (S.call (wmul_to ⟨_, _, _, by rw [hz1.out], N1⟩ ⟨_, _, _, by rw [hz2.out], N2⟩ (nb_max M1.out (by decide)) (nb_max M2.out (by decide)) zp HP.out (nb_max BP.out (by decide)))).mono ?_
    clear S
    rintro e w3 ⟨⟨_, rfl, pp, lp, Kp, rfl, np⟩, S, H⟩
    replace N1 := N1.hold H
    replace N2 := N2.hold H
    replace N3 := N3.hold H
    clear H
    have c0_0 := S.c 0 0 rfl rfl
    have c0_1 := S.c 0 1 rfl rfl
    have c1_0 := S.c 1 0 rfl rfl
    have c1_1 := S.c 1 1 rfl rfl
    have c2_0 := S.c 2 0 rfl rfl
    have c2_1 := S.c 2 1 rfl rfl
    have H := S.hnew 25 [.bool (negB zp), .slice pp lp Kp]
    replace S := S.alloc 25 [.bool (negB zp), .slice pp lp Kp] (w3.heap.size)
    replace N1 := N1.hold H
    replace N2 := N2.hold H
    replace N3 := N3.hold H
    replace np := np.hold H
    clear H
    clear c0_0 c0_1 c1_0 c1_1 c2_0 c2_1
    have c0_0 := S.c 0 0 rfl rfl
    have c0_1 := S.c 0 1 rfl rfl
    have c1_0 := S.c 1 0 rfl rfl
    have c1_1 := S.c 1 1 rfl rfl
    have c2_0 := S.c 2 0 rfl rfl
    have c2_1 := S.c 2 1 rfl rfl
    have c4_0 := S.c 4 0 rfl rfl
    have c4_1 := S.c 4 1 rfl rfl
    go_wp2_with fail
    clear c0_0 c0_1 c1_0 c1_1 c2_0 c2_1 c4_0 c4_1
    refine (S.call (wmul_to ⟨_, _, _, by rw [hz1.out], N1⟩ ⟨_, _, _, by rw [hz3.out], N3⟩ (nb_max M1.out (by decide)) (nb_max M3.out (by decide)) zq HQ.out (nb_max BQ.out (by decide)))).mono ?_
    clear S
    rintro e w4 ⟨⟨_, rfl, pq, lq, Kq, rfl, nq⟩, S, H⟩
    replace N1 := N1.hold H
    replace N2 := N2.hold H
    replace N3 := N3.hold H
    replace np := np.hold H
    clear H
    have c0_0 := S.c 0 0 rfl rfl
    have c0_1 := S.c 0 1 rfl rfl
    have c1_0 := S.c 1 0 rfl rfl
    have c1_1 := S.c 1 1 rfl rfl
    have c2_0 := S.c 2 0 rfl rfl
    have c2_1 := S.c 2 1 rfl rfl
    have c4_0 := S.c 4 0 rfl rfl
    have c4_1 := S.c 4 1 rfl rfl
    have H := S.hnew 25 [.bool (negB zq), .slice pq lq Kq]
    replace S := S.alloc 25 [.bool (negB zq), .slice pq lq Kq] (w4.heap.size)
    replace N1 := N1.hold H
    replace N2 := N2.hold H
    replace N3 := N3.hold H
    replace np := np.hold H
    replace nq := nq.hold H
    clear H
    clear c0_0 c0_1 c1_0 c1_1 c2_0 c2_1 c4_0 c4_1
    have c0_0 := S.c 0 0 rfl rfl
    have c0_1 := S.c 0 1 rfl rfl
    have c1_0 := S.c 1 0 rfl rfl
    have c1_1 := S.c 1 1 rfl rfl
    have c2_0 := S.c 2 0 rfl rfl
    have c2_1 := S.c 2 1 rfl rfl
    have c4_0 := S.c 4 0 rfl rfl
    have c4_1 := S.c 4 1 rfl rfl
    have c5_0 := S.c 5 0 rfl rfl
    have c5_1 := S.c 5 1 rfl rfl
    go_wp2_with fail
    clear c0_0 c0_1 c1_0 c1_1 c2_0 c2_1 c4_0 c4_1 c5_0 c5_1
    refine (S.call (wadd_to ⟨_, _, _, by rw [hz2.out], N2⟩ ⟨_, _, _, by rw [hz3.out], N3⟩ (nb_max M2.out (by decide)) (nb_max M3.out (by decide)) zs HSS.out (nb_max BS.out (by decide)))).mono ?_
    clear S
    rintro e w5 ⟨⟨_, rfl, ps, ls, Ks, rfl, ns⟩, S, H⟩
    replace N1 := N1.hold H
    replace N2 := N2.hold H
    replace N3 := N3.hold H
    replace np := np.hold H
    replace nq := nq.hold H
    clear H
    have c0_0 := S.c 0 0 rfl rfl
    have c0_1 := S.c 0 1 rfl rfl
    have c1_0 := S.c 1 0 rfl rfl
    have c1_1 := S.c 1 1 rfl rfl
    have c2_0 := S.c 2 0 rfl rfl
    have c2_1 := S.c 2 1 rfl rfl
    have c4_0 := S.c 4 0 rfl rfl
    have c4_1 := S.c 4 1 rfl rfl
    have c5_0 := S.c 5 0 rfl rfl
    have c5_1 := S.c 5 1 rfl rfl
    have H := S.hnew 25 [.bool (negB zs), .slice ps ls Ks]
    replace S := S.alloc 25 [.bool (negB zs), .slice ps ls Ks] (w5.heap.size)
    replace N1 := N1.hold H
    replace N2 := N2.hold H
    replace N3 := N3.hold H
    replace np := np.hold H
    replace nq := nq.hold H
    replace ns := ns.hold H
    clear H
    clear c0_0 c0_1 c1_0 c1_1 c2_0 c2_1 c4_0 c4_1 c5_0 c5_1
    have c0_0 := S.c 0 0 rfl rfl
    have c0_1 := S.c 0 1 rfl rfl
    have c1_0 := S.c 1 0 rfl rfl
    have c1_1 := S.c 1 1 rfl rfl
    have c2_0 := S.c 2 0 rfl rfl
    have c2_1 := S.c 2 1 rfl rfl
    have c4_0 := S.c 4 0 rfl rfl
    have c4_1 := S.c 4 1 rfl rfl
    have c5_0 := S.c 5 0 rfl rfl
    have c5_1 := S.c 5 1 rfl rfl
    have c6_0 := S.c 6 0 rfl rfl
    have c6_1 := S.c 6 1 rfl rfl
    go_wp2_with fail
    clear c0_0 c0_1 c1_0 c1_1 c2_0 c2_1 c4_0 c4_1 c5_0 c5_1 c6_0 c6_1
    refine (S.call (wmul_to ⟨_, _, _, by rw [hz1.out], N1⟩ ⟨_, _, _, rfl, ns⟩ (nb_max M1.out (by decide)) (nb_max BS.out (by decide)) zm HM.out (nb_max BM.out (by decide)))).mono ?_
    clear S
    rintro e w6 ⟨⟨_, rfl, pm, lm, Km, rfl, nm⟩, S, H⟩
    replace N1 := N1.hold H
    replace N2 := N2.hold H
    replace N3 := N3.hold H
    replace np := np.hold H
    replace nq := nq.hold H
    replace ns := ns.hold H
    clear H
    have c0_0 := S.c 0 0 rfl rfl
    have c0_1 := S.c 0 1 rfl rfl
    have c1_0 := S.c 1 0 rfl rfl
    have c1_1 := S.c 1 1 rfl rfl
    have c2_0 := S.c 2 0 rfl rfl
    have c2_1 := S.c 2 1 rfl rfl
    have c4_0 := S.c 4 0 rfl rfl
    have c4_1 := S.c 4 1 rfl rfl
    have c5_0 := S.c 5 0 rfl rfl
    have c5_1 := S.c 5 1 rfl rfl
    have c6_0 := S.c 6 0 rfl rfl
    have c6_1 := S.c 6 1 rfl rfl
    have H := S.hnew 25 [.bool (negB zm), .slice pm lm Km]
    replace S := S.alloc 25 [.bool (negB zm), .slice pm lm Km] (w6.heap.size)
    replace N1 := N1.hold H
    replace N2 := N2.hold H
    replace N3 := N3.hold H
    replace np := np.hold H
    replace nq := nq.hold H
    replace ns := ns.hold H
    replace nm := nm.hold H
    clear H
    clear c0_0 c0_1 c1_0 c1_1 c2_0 c2_1 c4_0 c4_1 c5_0 c5_1 c6_0 c6_1
    have c0_0 := S.c 0 0 rfl rfl
    have c0_1 := S.c 0 1 rfl rfl
    have c1_0 := S.c 1 0 rfl rfl
    have c1_1 := S.c 1 1 rfl rfl
    have c2_0 := S.c 2 0 rfl rfl
    have c2_1 := S.c 2 1 rfl rfl
    have c4_0 := S.c 4 0 rfl rfl
    have c4_1 := S.c 4 1 rfl rfl
    have c5_0 := S.c 5 0 rfl rfl
    have c5_1 := S.c 5 1 rfl rfl
    have c6_0 := S.c 6 0 rfl rfl
    have c6_1 := S.c 6 1 rfl rfl
    have c7_0 := S.c 7 0 rfl rfl
    have c7_1 := S.c 7 1 rfl rfl
    go_wp2_with fail
    clear c0_0 c0_1 c1_0 c1_1 c2_0 c2_1 c4_0 c4_1 c5_0 c5_1 c6_0 c6_1 c7_0 c7_1
    refine (S.call (wadd_to ⟨_, _, _, rfl, np⟩ ⟨_, _, _, rfl, nq⟩ (nb_max BP.out (by decide)) (nb_max BQ.out (by decide)) zm HPM.out (nb_max BM.out (by decide)))).mono ?_
    clear S
    rintro e w7 ⟨⟨_, rfl, pt, lt, Kt, rfl, nt⟩, S, H⟩
    replace N1 := N1.hold H
    replace N2 := N2.hold H
    replace N3 := N3.hold H
    replace np := np.hold H
    replace nq := nq.hold H
    replace ns := ns.hold H
    replace nm := nm.hold H
    clear H
    have c0_0 := S.c 0 0 rfl rfl
    have c0_1 := S.c 0 1 rfl rfl
    have c1_0 := S.c 1 0 rfl rfl
    have c1_1 := S.c 1 1 rfl rfl
    have c2_0 := S.c 2 0 rfl rfl
    have c2_1 := S.c 2 1 rfl rfl
    have c4_0 := S.c 4 0 rfl rfl
    have c4_1 := S.c 4 1 rfl rfl
    have c5_0 := S.c 5 0 rfl rfl
    have c5_1 := S.c 5 1 rfl rfl
    have c6_0 := S.c 6 0 rfl rfl
    have c6_1 := S.c 6 1 rfl rfl
    have c7_0 := S.c 7 0 rfl rfl
    have c7_1 := S.c 7 1 rfl rfl
    have H := S.hnew 25 [.bool (negB zm), .slice pt lt Kt]
    replace S := S.alloc 25 [.bool (negB zm), .slice pt lt Kt] (w7.heap.size)
    replace N1 := N1.hold H
    replace N2 := N2.hold H
    replace N3 := N3.hold H
    replace np := np.hold H
    replace nq := nq.hold H
    replace ns := ns.hold H
    replace nm := nm.hold H
    replace nt := nt.hold H
    clear H
    have hfd := field_sig
    clear c0_0 c0_1 c1_0 c1_1 c2_0 c2_1 c4_0 c4_1 c5_0 c5_1 c6_0 c6_1 c7_0 c7_1
    have c0_0 := S.c 0 0 rfl rfl
    have c0_1 := S.c 0 1 rfl rfl
    have c1_0 := S.c 1 0 rfl rfl
    have c1_1 := S.c 1 1 rfl rfl
    have c2_0 := S.c 2 0 rfl rfl
    have c2_1 := S.c 2 1 rfl rfl
    have c4_0 := S.c 4 0 rfl rfl
    have c4_1 := S.c 4 1 rfl rfl
    have c5_0 := S.c 5 0 rfl rfl
    have c5_1 := S.c 5 1 rfl rfl
    have c6_0 := S.c 6 0 rfl rfl
    have c6_1 := S.c 6 1 rfl rfl
    have c7_0 := S.c 7 0 rfl rfl
    have c7_1 := S.c 7 1 rfl rfl
    have c8_0 := S.c 8 0 rfl rfl
    have c8_1 := S.c 8 1 rfl rfl
    go_upto_region 10 with fail
    clear c0_0 c0_1 c1_0 c1_1 c2_0 c2_1 c4_0 c4_1 c5_0 c5_1 c6_0 c6_1 c7_0 c7_1 c8_0 c8_1
    replace N1 := N1.hold (Hold.drew _)
    replace N2 := N2.hold (Hold.drew _)
    replace N3 := N3.hold (Hold.drew _)
    replace np := np.hold (Hold.drew _)
    replace nq := nq.hold (Hold.drew _)
    replace ns := ns.hold (Hold.drew _)
    replace nm := nm.hold (Hold.drew _)
    replace nt := nt.hold (Hold.drew _)
    replace S := S.drew
    have tok1 := Lib.hid trivial
    have tok2 := Lib.hid trivial
    have tok3 := Lib.hid trivial
    have tok4 := Lib.hid trivial
    have tok5 := Lib.hid trivial
    go_region_held3 (fun W => W.cell? ⟨w3.heap.size, 0, none⟩ = some (.bool (negB zp)) ∧ W.cell? ⟨w3.heap.size, 1, none⟩ = some (.slice pp lp Kp) ∧ W.cell? ⟨w.heap.size, 0, none⟩ = some (.bool b1) ∧ W.cell? ⟨w.heap.size, 1, none⟩ = some (.slice p1 l1 K1) ∧ W.cell? ⟨w.heap.size + 1, 0, none⟩ = some (.bool b2) ∧ W.cell? ⟨w.heap.size + 1, 1, none⟩ = some (.slice p2 l2 K2) ∧ W.cell? ⟨w6.heap.size, 0, none⟩ = some (.bool (negB zm)) ∧ W.cell? ⟨w6.heap.size, 1, none⟩ = some (.slice pm lm Km) ∧ W.cell? ⟨w7.heap.size, 0, none⟩ = some (.bool (negB zm)) ∧ W.cell? ⟨w7.heap.size, 1, none⟩ = some (.slice pt lt Kt))
      (first | exact ⟨S.c 4 0 rfl rfl, S.c 4 1 rfl rfl, S.c 0 0 rfl rfl, S.c 0 1 rfl rfl, S.c 1 0 rfl rfl, S.c 1 1 rfl rfl, S.c 7 0 rfl rfl, S.c 7 1 rfl rfl, S.c 8 0 rfl rfl, S.c 8 1 rfl rfl⟩)
      (first
        | (clear tok1; go_at_call 11; refine (S.call (sigOf_any ⟨_, _, _, by rw [hz1.out], N1⟩ (nb_max M1.out (by decide)))).mono ?_; clear S; rintro e w8 ⟨⟨_, rfl, c1, q1, j1, J1, n1, rfl, e1, r1⟩, S, H⟩; replace N1 := N1.hold H; replace N2 := N2.hold H; replace N3 := N3.hold H; replace np := np.hold H; replace nq := nq.hold H; replace ns := ns.hold H; replace nm := nm.hold H; replace nt := nt.hold H; clear H)
        | (clear tok2; go_at_call 11; refine (S.call (sigOf_any ⟨_, _, _, by rw [hz2.out], N2⟩ (nb_max M2.out (by decide)))).mono ?_; clear S; rintro e w9 ⟨⟨_, rfl, c2, q2, j2, J2, n2, rfl, e2, r2⟩, S, H⟩; replace N1 := N1.hold H; replace N2 := N2.hold H; replace N3 := N3.hold H; replace np := np.hold H; replace nq := nq.hold H; replace ns := ns.hold H; replace nm := nm.hold H; replace nt := nt.hold H; replace r1 := r1.hold H; clear H)
        | (clear tok3; go_at_call 19; refine (S.call (refMul_any r1 r2 (sig_max e1.out M1.out) (sig_max e2.out M2.out))).mono ?_; clear S; rintro e w10 ⟨⟨_, rfl, r3⟩, S, H⟩; replace N1 := N1.hold H; replace N2 := N2.hold H; replace N3 := N3.hold H; replace np := np.hold H; replace nq := nq.hold H; replace ns := ns.hold H; replace nm := nm.hold H; replace nt := nt.hold H; replace r1 := r1.hold H; replace r2 := r2.hold H; clear H; obtain ⟨q3, j3, J3, rfl⟩ := r3.form)
        | (clear tok4; go_at_call 15; refine (S.call (sigIs_any ⟨_, _, _, rfl, np⟩ ⟨b1 != b2, q3, j3, J3, _, rfl, sigMul hz1.out hz2.out e1.out e2.out HP.out, r3⟩ (nb_max BP.out (by decide)))).mono ?_; clear S; rintro e w11 ⟨rfl, S, H⟩; replace N1 := N1.hold H; replace N2 := N2.hold H; replace N3 := N3.hold H; replace np := np.hold H; replace nq := nq.hold H; replace ns := ns.hold H; replace nm := nm.hold H; replace nt := nt.hold H; replace r1 := r1.hold H; replace r2 := r2.hold H; replace r3 := r3.hold H; clear H)
        | (clear tok5; go_at_call 17; refine (S.call (wsame_any ⟨_, _, _, rfl, nm⟩ ⟨_, _, _, rfl, nt⟩ (nb_max BM.out (by decide)) (nb_max BM.out (by decide)) (r := true) (cmp_same zm))).mono ?_; clear S; rintro e w12 ⟨rfl, S, H⟩; replace N1 := N1.hold H; replace N2 := N2.hold H; replace N3 := N3.hold H; replace np := np.hold H; replace nq := nq.hold H; replace ns := ns.hold H; replace nm := nm.hold H; replace nt := nt.hold H; replace r1 := r1.hold H; replace r2 := r2.hold H; replace r3 := r3.hold H; clear H))
    go_wp2_with fail
    exact bodyPost_ret (v := .bool true) (by simp [results, Tryd.f4, go_sem]) rfl (⟨rfl, S.below⟩)

end Go.Proofs.YtcopfjooopindaaDoor
