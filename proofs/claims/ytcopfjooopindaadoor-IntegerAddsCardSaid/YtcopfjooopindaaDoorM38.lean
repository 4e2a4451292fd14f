/-
  girdlelaw03.IntegerAdds, as a walk: whatever the three numbers, it returns true.
-/
import Derived.Test.YtcopfjooopindaaDoorM04
import Derived.Test.YtcopfjooopindaaDoorM23
import Derived.Deep.DeepCutAuto

namespace Go.Proofs.YtcopfjooopindaaDoor
open Go.RowKit

section
variable {w W : World} {L : List (Nat × TypeId × List Value)} {b : Nat} {t : TypeId} {p0 p1 p2 : Option Addr} {l0 l1 l2 K0 K1 K2 : Nat} {b0 b1 b2 : Bool} {z0 z1 z2 : Int}
theorem ints3v (S : Sv w W L) (i : Nat) (hi : L[i]? = some (b, t, [.bool b0, .slice p0 l0 K0, .bool b1, .slice p1 l1 K1, .bool b2, .slice p2 l2 K2])) (e0 : negB z0 = b0) (e1 : negB z1 = b1) (e2 : negB z2 = b2)
    (n0 : IsNat W (.slice p0 l0 K0) z0.natAbs) (n1 : IsNat W (.slice p1 l1 K1) z1.natAbs) (n2 : IsNat W (.slice p2 l2 K2) z2.natAbs) :
    IntsAt W b 3 (fun j => [p0, p1, p2].getD j none) (fun j => [l0, l1, l2].getD j 0) (fun j => [K0, K1, K2].getD j 0) (fun j => [z0, z1, z2].getD j 0) := by
  subst e0; subst e1; subst e2
  refine ⟨S.lt i hi, fun j hj => ?_⟩
  match j, hj with
  | 0, _ => exact ⟨S.c i 0 hi rfl, S.c i 1 hi rfl, n0⟩
  | 1, _ => exact ⟨S.c i 2 hi rfl, S.c i 3 hi rfl, n1⟩
  | 2, _ => exact ⟨S.c i 4 hi rfl, S.c i 5 hi rfl, n2⟩
end
theorem sigAdd_to {va vb : Value} {x y : Int} {w : World} (ha : IsSig w va x) (hb : IsSig w vb y) (hx : x.natAbs < maxN) (hy : y.natAbs < maxN) (z : Int) (hz : x + y = z) :
    Calls Tryd.prog 16 #[va, vb] w fun e w' => (∃ u, e = .returned u ∧ IsSig w' u z) ∧ Below w.heap.size w w' := by
  subst hz; exact sigAdd_any ha hb hx hy
theorem sig_neg {y : Int} {c : Bool} {m : Nat} (h : y = if c then -(m : Int) else (m : Int)) : Hid (-y = if (!c) then -(m : Int) else (m : Int)) := by
  show _ = _
  rw [h]
  cases c <;> simp

set_option maxRecDepth 100000 in
set_option maxHeartbeats 8000000 in
theorem integerAdds_any (b1 b2 b3 : Bool) (p1 p2 p3 : Option Addr) (K1 K2 K3 : Nat) (ds1 ds2 ds3 : List Nat) (w : World) (hT : Tab w) (at1 : At .u32 w p1 K1 ds1) (at2 : At .u32 w p2 K2 ds2) (at3 : At .u32 w p3 K3 ds3) (d1 : Dig 4294967296 ds1) (d2 : Dig 4294967296 ds2) (d3 : Dig 4294967296 ds3) :
    Calls Tryd.prog 3 #[.agg #[.bool b1, .slice p1 ds1.length K1], .agg #[.bool b2, .slice p2 ds2.length K2], .agg #[.bool b3, .slice p3 ds3.length K3]] w fun e w' => e = .returned (.bool true) ∧ Below w.heap.size w w' := by
  have HT := Lib.hid hT
  have HD := Lib.hid (And.intro d1 (And.intro d2 d3))
  obtain ⟨l1, hl1⟩ : ∃ l, ds1.length = l := ⟨_, rfl⟩
  obtain ⟨l2, hl2⟩ : ∃ l, ds2.length = l := ⟨_, rfl⟩
  obtain ⟨l3, hl3⟩ : ∃ l, ds3.length = l := ⟨_, rfl⟩
  have HL := Lib.hid (And.intro hl1 (And.intro hl2 hl3))
  rw [hl1, hl2, hl3]
  clear hT d1 d2 d3 hl1 hl2 hl3
  have S := (((St.start w).alloc 25 [.bool b1, .slice p1 l1 K1] (w.heap.size)).alloc 25 [.bool b2, .slice p2 l2 K2] (w.heap.size + 1)).alloc 25 [.bool b3, .slice p3 l3 K3] (w.heap.size + 1 + 1)
  replace at1 := at1.hold S.hold
  replace at2 := at2.hold S.hold
  replace at3 := at3.hold S.hold
  have c0_0 := S.c 0 0 rfl rfl
  have c0_1 := S.c 0 1 rfl rfl
  have c1_0 := S.c 1 0 rfl rfl
  have c1_1 := S.c 1 1 rfl rfl
  have c2_0 := S.c 2 0 rfl rfl
  have c2_1 := S.c 2 1 rfl rfl
  go_enter Tryd.func3, Tryd.ntmps3
  go_wp2_with fail
  clear c0_0 c0_1 c1_0 c1_1 c2_0 c2_1
  refine (S.call (counts_any _ (HT.out.below S.below))).mono ?_
  clear S
  rintro e w1 ⟨rfl, S, H⟩
  replace at1 := at1.hold H
  replace at2 := at2.hold H
  replace at3 := at3.hold H
  clear H
  have c0_0 := S.c 0 0 rfl rfl
  have c0_1 := S.c 0 1 rfl rfl
  have c1_0 := S.c 1 0 rfl rfl
  have c1_1 := S.c 1 1 rfl rfl
  have c2_0 := S.c 2 0 rfl rfl
  have c2_1 := S.c 2 1 rfl rfl
  have H := S.hnew 25 [.bool b1, .slice p1 l1 K1, .bool b2, .slice p2 l2 K2, .bool b3, .slice p3 l3 K3]
  replace S := S.alloc 25 [.bool b1, .slice p1 l1 K1, .bool b2, .slice p2 l2 K2, .bool b3, .slice p3 l3 K3] (w1.heap.size)
  replace at1 := at1.hold H
  replace at2 := at2.hold H
  replace at3 := at3.hold H
  clear H
  go_wp2_with fail
  clear c0_0 c0_1 c1_0 c1_1 c2_0 c2_1
  refine (S.call (wfit_any _ 3 _ _ _ _ _ (S.lt 3 rfl) (by decide) (raws3 S 3 rfl HL.out.1 HL.out.2.1 HL.out.2.2 at1 at2 at3 HD.out.1 HD.out.2.1 HD.out.2.2))).mono ?_
  clear S
  rintro e w2 ⟨⟨b, rfl, hb⟩, S, H⟩
  replace at1 := at1.hold H
  replace at2 := at2.hold H
  replace at3 := at3.hold H
  clear H
  have c0_0 := S.c 0 0 rfl rfl
  have c0_1 := S.c 0 1 rfl rfl
  have c1_0 := S.c 1 0 rfl rfl
  have c1_1 := S.c 1 1 rfl rfl
  have c2_0 := S.c 2 0 rfl rfl
  have c2_1 := S.c 2 1 rfl rfl
  cases b with
  | false =>
    go_wp2_with fail
    exact bodyPost_ret (v := .bool true) (by simp [results, Tryd.f3, go_sem]) rfl (⟨rfl, S.below⟩)
  | true =>
    have t := hb.out rfl
    have T1 : Tried3 30 b1 ds1 := t 0 (by decide)
    have T2 : Tried3 30 b2 ds2 := t 1 (by decide)
    have T3 : Tried3 30 b3 ds3 := t 2 (by decide)
    obtain ⟨z1, hz1, hm1, N1⟩ := tried_int T1 HD.out.1 HL.out.1 at1
    obtain ⟨z2, hz2, hm2, N2⟩ := tried_int T2 HD.out.2.1 HL.out.2.1 at2
    obtain ⟨z3, hz3, hm3, N3⟩ := tried_int T3 HD.out.2.2 HL.out.2.2 at3
    have M1 := Lib.hid hm1
    have M2 := Lib.hid hm2
    have M3 := Lib.hid hm3
    clear at1 at2 at3
    clear t hb T1 T2 T3 hm1 hm2 hm3
    obtain ⟨zs, hzs⟩ : ∃ z, z1 + z2 = z := ⟨_, rfl⟩
    obtain ⟨zd, hzd⟩ : ∃ z, z1 - z2 = z := ⟨_, rfl⟩
    obtain ⟨zt, hzt⟩ : ∃ z, zs + z3 = z := ⟨_, rfl⟩
    have BS := Lib.hid (show zs.natAbs < NB 31 from hzs ▸ nbz_add M1.out M2.out)
    have BD := Lib.hid (show zd.natAbs < NB 31 from hzd ▸ nbz_sub M1.out M2.out)
    have BT := Lib.hid (show zt.natAbs < NB 32 from hzt ▸ nbz_add BS.out (nb_mono M3.out (by decide)))
    have BU := Lib.hid (show (z3 + z2).natAbs < NB 31 from nbz_add M3.out M2.out)
    have hd2 : z1 + -z2 = zd := by omega
    have ht1 : z1 + z2 + z3 = zt := by omega
    have ht2 : z3 + z2 + z1 = zt := by omega
    have HZ := Lib.hid (And.intro hzs (And.intro hzd (And.intro hd2 (And.intro hzt (And.intro ht1 ht2)))))
    clear hzs hzd hzt hd2 ht1 ht2
    go_upto_region 5 with fail
    clear c0_0 c0_1 c1_0 c1_1 c2_0 c2_1
    go_cut [7, 8] (fun s7 s8 wx => ∃ g7 g8 c1 q1 j1 J1 m1 c2 q2 j2 J2 m2, s7 = .pointer (some ⟨g7, 0, none⟩) ∧ s8 = .pointer (some ⟨g8, 0, none⟩) ∧ Sv w wx [(w.heap.size, 25, [.bool b1, .slice p1 l1 K1]), (w.heap.size + 1, 25, [.bool b2, .slice p2 l2 K2]), (w.heap.size + 1 + 1, 25, [.bool b3, .slice p3 l3 K3]), (w1.heap.size, 25, [.bool b1, .slice p1 l1 K1, .bool b2, .slice p2 l2 K2, .bool b3, .slice p3 l3 K3]), (g7, 30, [.bool c1, .slice q1 j1 J1]), (g8, 30, [.bool c2, .slice q2 j2 J2])] ∧ Hid (z1 = if c1 then -((m1 : Nat) : Int) else ((m1 : Nat) : Int)) ∧ IsRef wx (.slice q1 j1 J1) m1 ∧ Hid (z2 = if c2 then -((m2 : Nat) : Int) else ((m2 : Nat) : Int)) ∧ IsRef wx (.slice q2 j2 J2) m2 ∧ Hold w2 wx)
    case first =>
      have HH := Hold.drew w2
      replace N1 := N1.hold HH
      replace N2 := N2.hold HH
      replace N3 := N3.hold HH
      replace S := S.drew
      refine wp_region_held_drew (S := fun W => W.cell? ⟨w.heap.size, 0, none⟩ = some (.bool b1) ∧ W.cell? ⟨w.heap.size, 1, none⟩ = some (.slice p1 l1 K1) ∧ W.cell? ⟨w.heap.size + 1, 0, none⟩ = some (.bool b2) ∧ W.cell? ⟨w.heap.size + 1, 1, none⟩ = some (.slice p2 l2 K2)) (by kernel_rfl) ⟨S.c 0 0 rfl rfl, S.c 0 1 rfl rfl, S.c 1 0 rfl rfl, S.c 1 1 rfl rfl⟩ (fun hS => ?_)
      generalize w2.drew = w3 at S N1 N2 N3 HH hS ⊢
      refine wpAnyH_take (i := 0) (v := ?_) ((List.getElem?_toArray ..).trans rfl) (by kernel_rfl) (by kernel_rfl) (by kernel_rfl) (fun _ _ _ h => h) (Or.inl ⟨rfl, fun W hW => ?_⟩) hS ?_
      rotate_left
      · obtain ⟨hW0, hW1, hW2, hW3⟩ := hW; go_simp; try first | rfl | kernel_rfl
      try simp only [Act.put, List.setIfInBounds_toArray, List.set_cons_zero, List.set_cons_succ]
      refine wpAnyH_take (i := 2) (v := ?_) ((List.getElem?_toArray ..).trans rfl) (by kernel_rfl) (by kernel_rfl) (by kernel_rfl) (fun _ _ _ h => h) (Or.inl ⟨rfl, fun W hW => ?_⟩) hS ?_
      rotate_left
      · obtain ⟨hW0, hW1, hW2, hW3⟩ := hW; go_simp; try first | rfl | kernel_rfl
      try simp only [Act.put, List.setIfInBounds_toArray, List.set_cons_zero, List.set_cons_succ]
      refine wpAnyH_ready (rs := [1, 4, 5]) (by kernel_rfl) (by simp) (AllReadyH.cons ((List.getElem?_toArray ..).trans rfl) (fun K hK => ?_) (AllReadyH.cons ((List.getElem?_toArray ..).trans rfl) (fun K hK => ?_) (AllReadyH.cons ((List.getElem?_toArray ..).trans rfl) (fun K hK => ?_) AllReadyH.nil)))
      ·
        go_simp
        clear hS
        refine (S.call (sigOf_any ⟨_, _, _, by rw [hz1.out], N1⟩ (nb_max M1.out (by decide)))).mono ?_
        clear S
        rintro e w4 ⟨⟨_, rfl, c1, q1, j1, J1, m1, rfl, e1, r1⟩, S, H⟩
        replace N1 := N1.hold H
        replace N2 := N2.hold H
        replace N3 := N3.hold H
        replace HH := HH.trans H
        clear H
        go_wp2_with fail
        refine hK.out _ _ ⟨S.c 0 0 rfl rfl, S.c 0 1 rfl rfl, S.c 1 0 rfl rfl, S.c 1 1 rfl rfl⟩ (fun hS => ?_)
        clear hK K
        try simp only [Act.put, List.setIfInBounds_toArray, List.set_cons_zero, List.set_cons_succ]
        refine wpAnyH_ready (rs := [3, 4, 5]) (by kernel_rfl) (by simp) (AllReadyH.cons ((List.getElem?_toArray ..).trans rfl) (fun K hK => ?_) (AllReadyH.cons ((List.getElem?_toArray ..).trans rfl) (fun K hK => ?_) (AllReadyH.cons ((List.getElem?_toArray ..).trans rfl) (fun K hK => ?_) AllReadyH.nil)))
        ·
          go_simp
          clear hS
          refine (S.call (sigOf_any ⟨_, _, _, by rw [hz2.out], N2⟩ (nb_max M2.out (by decide)))).mono ?_
          clear S
          rintro e w5 ⟨⟨_, rfl, c2, q2, j2, J2, m2, rfl, e2, r2⟩, S, H⟩
          replace N1 := N1.hold H
          replace N2 := N2.hold H
          replace N3 := N3.hold H
          replace r1 := r1.hold H
          replace HH := HH.trans H
          clear H
          go_wp2_with fail
          refine hK.out _ _ ⟨S.c 0 0 rfl rfl, S.c 0 1 rfl rfl, S.c 1 0 rfl rfl, S.c 1 1 rfl rfl⟩ (fun hS => ?_)
          clear hK K
          try simp only [Act.put, List.setIfInBounds_toArray, List.set_cons_zero, List.set_cons_succ]
          refine wpAnyH_ready (rs := [4, 5]) (by kernel_rfl) (by simp) (AllReadyH.cons ((List.getElem?_toArray ..).trans rfl) (fun K hK => ?_) (AllReadyH.cons ((List.getElem?_toArray ..).trans rfl) (fun K hK => ?_) AllReadyH.nil))
          ·
            go_simp
            clear hS
            have H := S.hnew 30 [.bool false, .slice none 0 0]
            replace S := S.alloc 30 [.bool false, .slice none 0 0] (w5.heap.size)
            replace N1 := N1.hold H
            replace N2 := N2.hold H
            replace N3 := N3.hold H
            replace r1 := r1.hold H
            replace r2 := r2.hold H
            replace HH := HH.trans H
            clear H
            refine hK.out _ _ ⟨S.c 0 0 rfl rfl, S.c 0 1 rfl rfl, S.c 1 0 rfl rfl, S.c 1 1 rfl rfl⟩ (fun hS => ?_)
            generalize (w5.alloc (.cells #[.bool false, .slice none 0 0] 30)) = w6 at S N1 N2 N3 r1 r2 HH hS ⊢
            clear hK K
            try simp only [Act.put, List.setIfInBounds_toArray, List.set_cons_zero, List.set_cons_succ]
            refine wpAnyH_ready (rs := [5]) (by kernel_rfl) (by simp) (AllReadyH.cons ((List.getElem?_toArray ..).trans rfl) (fun K hK => ?_) AllReadyH.nil)
            go_simp
            clear hS
            have H := S.hnew 30 [.bool false, .slice none 0 0]
            replace S := S.alloc 30 [.bool false, .slice none 0 0] (w6.heap.size)
            replace N1 := N1.hold H
            replace N2 := N2.hold H
            replace N3 := N3.hold H
            replace r1 := r1.hold H
            replace r2 := r2.hold H
            replace HH := HH.trans H
            clear H
            refine hK.out _ _ ⟨S.c 0 0 rfl rfl, S.c 0 1 rfl rfl, S.c 1 0 rfl rfl, S.c 1 1 rfl rfl⟩ (fun hS => ?_)
            generalize (w6.alloc (.cells #[.bool false, .slice none 0 0] 30)) = w7 at S N1 N2 N3 r1 r2 HH hS ⊢
            clear hK K
            try simp only [Act.put, List.setIfInBounds_toArray, List.set_cons_zero, List.set_cons_succ]
            refine wpAnyH_ready (rs := [6]) (by kernel_rfl) (by simp) (AllReadyH.cons ((List.getElem?_toArray ..).trans rfl) (fun K hK => ?_) AllReadyH.nil)
            have c0 := S.c 4 0 rfl rfl
            have f0 := S.f 4 0 rfl
            have c1 := S.c 4 1 rfl rfl
            have f1 := S.f 4 1 rfl
            go_simp
            clear hS c0 f0 c1 f1
            have H := S.hset 4 0 (.bool c1) rfl rfl (by intro q n e; cases e)
            replace S := S.set 4 0 (.bool c1) rfl
            replace N1 := N1.hold H
            replace N2 := N2.hold H
            replace N3 := N3.hold H
            replace r1 := r1.hold H
            replace r2 := r2.hold H
            replace HH := HH.trans H
            clear H
            have H := S.hset 4 1 (.slice q1 j1 J1) rfl rfl (by intro q n e; cases e)
            replace S := S.set 4 1 (.slice q1 j1 J1) rfl
            replace N1 := N1.hold H
            replace N2 := N2.hold H
            replace N3 := N3.hold H
            replace r1 := r1.hold H
            replace r2 := r2.hold H
            replace HH := HH.trans H
            clear H
            refine hK.out _ _ ⟨S.c 0 0 rfl rfl, S.c 0 1 rfl rfl, S.c 1 0 rfl rfl, S.c 1 1 rfl rfl⟩ (fun hS => ?_)
            generalize ((w7.setCell ⟨w5.heap.size, 0, none⟩ (.bool c1)).setCell ⟨w5.heap.size, 1, none⟩ (.slice q1 j1 J1)) = w8 at S N1 N2 N3 r1 r2 HH hS ⊢
            clear hK K
            try simp only [Act.put, List.setIfInBounds_toArray, List.set_cons_zero, List.set_cons_succ]
            refine wpAnyH_ready (rs := [7]) (by kernel_rfl) (by simp) (AllReadyH.cons ((List.getElem?_toArray ..).trans rfl) (fun K hK => ?_) AllReadyH.nil)
            have c0 := S.c 5 0 rfl rfl
            have f0 := S.f 5 0 rfl
            have c1 := S.c 5 1 rfl rfl
            have f1 := S.f 5 1 rfl
            go_simp
            clear hS c0 f0 c1 f1
            have H := S.hset 5 0 (.bool c2) rfl rfl (by intro q n e; cases e)
            replace S := S.set 5 0 (.bool c2) rfl
            replace N1 := N1.hold H
            replace N2 := N2.hold H
            replace N3 := N3.hold H
            replace r1 := r1.hold H
            replace r2 := r2.hold H
            replace HH := HH.trans H
            clear H
            have H := S.hset 5 1 (.slice q2 j2 J2) rfl rfl (by intro q n e; cases e)
            replace S := S.set 5 1 (.slice q2 j2 J2) rfl
            replace N1 := N1.hold H
            replace N2 := N2.hold H
            replace N3 := N3.hold H
            replace r1 := r1.hold H
            replace r2 := r2.hold H
            replace HH := HH.trans H
            clear H
            refine hK.out _ _ ⟨S.c 0 0 rfl rfl, S.c 0 1 rfl rfl, S.c 1 0 rfl rfl, S.c 1 1 rfl rfl⟩ (fun hS => ?_)
            generalize ((w8.setCell ⟨w6.heap.size, 0, none⟩ (.bool c2)).setCell ⟨w6.heap.size, 1, none⟩ (.slice q2 j2 J2)) = w9 at S N1 N2 N3 r1 r2 HH hS ⊢
            clear hK K
            try simp only [Act.put, List.setIfInBounds_toArray, List.set_cons_zero, List.set_cons_succ]
            refine wpAnyH_done (by kernel_rfl) ?_ _
            go_wp2_with fail
            go_meet
            case rel => exact ⟨w5.heap.size, w6.heap.size, c1, q1, j1, J1, m1, c2, q2, j2, J2, m2, rfl, rfl, Sv.of S [0, 1, 2, 3, 4, 5] rfl, e1, r1, e2, r2, HH⟩
          ·
            go_simp
            clear hS
            have H := S.hnew 30 [.bool false, .slice none 0 0]
            replace S := S.alloc 30 [.bool false, .slice none 0 0] (w5.heap.size)
            replace N1 := N1.hold H
            replace N2 := N2.hold H
            replace N3 := N3.hold H
            replace r1 := r1.hold H
            replace r2 := r2.hold H
            replace HH := HH.trans H
            clear H
            refine hK.out _ _ ⟨S.c 0 0 rfl rfl, S.c 0 1 rfl rfl, S.c 1 0 rfl rfl, S.c 1 1 rfl rfl⟩ (fun hS => ?_)
            generalize (w5.alloc (.cells #[.bool false, .slice none 0 0] 30)) = w10 at S N1 N2 N3 r1 r2 HH hS ⊢
            clear hK K
            try simp only [Act.put, List.setIfInBounds_toArray, List.set_cons_zero, List.set_cons_succ]
            refine wpAnyH_ready (rs := [4]) (by kernel_rfl) (by simp) (AllReadyH.cons ((List.getElem?_toArray ..).trans rfl) (fun K hK => ?_) AllReadyH.nil)
            go_simp
            clear hS
            have H := S.hnew 30 [.bool false, .slice none 0 0]
            replace S := S.alloc 30 [.bool false, .slice none 0 0] (w10.heap.size)
            replace N1 := N1.hold H
            replace N2 := N2.hold H
            replace N3 := N3.hold H
            replace r1 := r1.hold H
            replace r2 := r2.hold H
            replace HH := HH.trans H
            clear H
            refine hK.out _ _ ⟨S.c 0 0 rfl rfl, S.c 0 1 rfl rfl, S.c 1 0 rfl rfl, S.c 1 1 rfl rfl⟩ (fun hS => ?_)
            generalize (w10.alloc (.cells #[.bool false, .slice none 0 0] 30)) = w11 at S N1 N2 N3 r1 r2 HH hS ⊢
            clear hK K
            try simp only [Act.put, List.setIfInBounds_toArray, List.set_cons_zero, List.set_cons_succ]
            refine wpAnyH_ready (rs := [6]) (by kernel_rfl) (by simp) (AllReadyH.cons ((List.getElem?_toArray ..).trans rfl) (fun K hK => ?_) AllReadyH.nil)
            have c0 := S.c 5 0 rfl rfl
            have f0 := S.f 5 0 rfl
            have c1 := S.c 5 1 rfl rfl
            have f1 := S.f 5 1 rfl
            go_simp
            clear hS c0 f0 c1 f1
            have H := S.hset 5 0 (.bool c1) rfl rfl (by intro q n e; cases e)
            replace S := S.set 5 0 (.bool c1) rfl
            replace N1 := N1.hold H
            replace N2 := N2.hold H
            replace N3 := N3.hold H
            replace r1 := r1.hold H
            replace r2 := r2.hold H
            replace HH := HH.trans H
            clear H
            have H := S.hset 5 1 (.slice q1 j1 J1) rfl rfl (by intro q n e; cases e)
            replace S := S.set 5 1 (.slice q1 j1 J1) rfl
            replace N1 := N1.hold H
            replace N2 := N2.hold H
            replace N3 := N3.hold H
            replace r1 := r1.hold H
            replace r2 := r2.hold H
            replace HH := HH.trans H
            clear H
            refine hK.out _ _ ⟨S.c 0 0 rfl rfl, S.c 0 1 rfl rfl, S.c 1 0 rfl rfl, S.c 1 1 rfl rfl⟩ (fun hS => ?_)
            generalize ((w11.setCell ⟨w10.heap.size, 0, none⟩ (.bool c1)).setCell ⟨w10.heap.size, 1, none⟩ (.slice q1 j1 J1)) = w12 at S N1 N2 N3 r1 r2 HH hS ⊢
            clear hK K
            try simp only [Act.put, List.setIfInBounds_toArray, List.set_cons_zero, List.set_cons_succ]
            refine wpAnyH_ready (rs := [7]) (by kernel_rfl) (by simp) (AllReadyH.cons ((List.getElem?_toArray ..).trans rfl) (fun K hK => ?_) AllReadyH.nil)
            have c0 := S.c 4 0 rfl rfl
            have f0 := S.f 4 0 rfl
            have c1 := S.c 4 1 rfl rfl
            have f1 := S.f 4 1 rfl
            go_simp
            clear hS c0 f0 c1 f1
            have H := S.hset 4 0 (.bool c2) rfl rfl (by intro q n e; cases e)
            replace S := S.set 4 0 (.bool c2) rfl
            replace N1 := N1.hold H
            replace N2 := N2.hold H
            replace N3 := N3.hold H
            replace r1 := r1.hold H
            replace r2 := r2.hold H
            replace HH := HH.trans H
            clear H
            have H := S.hset 4 1 (.slice q2 j2 J2) rfl rfl (by intro q n e; cases e)
            replace S := S.set 4 1 (.slice q2 j2 J2) rfl
            replace N1 := N1.hold H
            replace N2 := N2.hold H
            replace N3 := N3.hold H
            replace r1 := r1.hold H
            replace r2 := r2.hold H
            replace HH := HH.trans H
            clear H
            refine hK.out _ _ ⟨S.c 0 0 rfl rfl, S.c 0 1 rfl rfl, S.c 1 0 rfl rfl, S.c 1 1 rfl rfl⟩ (fun hS => ?_)
            generalize ((w12.setCell ⟨w5.heap.size, 0, none⟩ (.bool c2)).setCell ⟨w5.heap.size, 1, none⟩ (.slice q2 j2 J2)) = w13 at S N1 N2 N3 r1 r2 HH hS ⊢
            clear hK K
            try simp only [Act.put, List.setIfInBounds_toArray, List.set_cons_zero, List.set_cons_succ]
            refine wpAnyH_done (by kernel_rfl) ?_ _
            go_wp2_with fail
            go_meet
            case rel => exact ⟨w10.heap.size, w5.heap.size, c1, q1, j1, J1, m1, c2, q2, j2, J2, m2, rfl, rfl, Sv.of S [0, 1, 2, 3, 5, 4] rfl, e1, r1, e2, r2, HH⟩
        ·
          go_simp
          clear hS
          have H := S.hnew 30 [.bool false, .slice none 0 0]
          replace S := S.alloc 30 [.bool false, .slice none 0 0] (w4.heap.size)
          replace N1 := N1.hold H
          replace N2 := N2.hold H
          replace N3 := N3.hold H
          replace r1 := r1.hold H
          replace HH := HH.trans H
          clear H
          refine hK.out _ _ ⟨S.c 0 0 rfl rfl, S.c 0 1 rfl rfl, S.c 1 0 rfl rfl, S.c 1 1 rfl rfl⟩ (fun hS => ?_)
          generalize (w4.alloc (.cells #[.bool false, .slice none 0 0] 30)) = w14 at S N1 N2 N3 r1 HH hS ⊢
          clear hK K
          try simp only [Act.put, List.setIfInBounds_toArray, List.set_cons_zero, List.set_cons_succ]
          refine wpAnyH_ready (rs := [3, 5]) (by kernel_rfl) (by simp) (AllReadyH.cons ((List.getElem?_toArray ..).trans rfl) (fun K hK => ?_) (AllReadyH.cons ((List.getElem?_toArray ..).trans rfl) (fun K hK => ?_) AllReadyH.nil))
          ·
            go_simp
            clear hS
            refine (S.call (sigOf_any ⟨_, _, _, by rw [hz2.out], N2⟩ (nb_max M2.out (by decide)))).mono ?_
            clear S
            rintro e w15 ⟨⟨_, rfl, c2, q2, j2, J2, m2, rfl, e2, r2⟩, S, H⟩
            replace N1 := N1.hold H
            replace N2 := N2.hold H
            replace N3 := N3.hold H
            replace r1 := r1.hold H
            replace HH := HH.trans H
            clear H
            go_wp2_with fail
            refine hK.out _ _ ⟨S.c 0 0 rfl rfl, S.c 0 1 rfl rfl, S.c 1 0 rfl rfl, S.c 1 1 rfl rfl⟩ (fun hS => ?_)
            clear hK K
            try simp only [Act.put, List.setIfInBounds_toArray, List.set_cons_zero, List.set_cons_succ]
            refine wpAnyH_ready (rs := [5]) (by kernel_rfl) (by simp) (AllReadyH.cons ((List.getElem?_toArray ..).trans rfl) (fun K hK => ?_) AllReadyH.nil)
            go_simp
            clear hS
            have H := S.hnew 30 [.bool false, .slice none 0 0]
            replace S := S.alloc 30 [.bool false, .slice none 0 0] (w15.heap.size)
            replace N1 := N1.hold H
            replace N2 := N2.hold H
            replace N3 := N3.hold H
            replace r1 := r1.hold H
            replace r2 := r2.hold H
            replace HH := HH.trans H
            clear H
            refine hK.out _ _ ⟨S.c 0 0 rfl rfl, S.c 0 1 rfl rfl, S.c 1 0 rfl rfl, S.c 1 1 rfl rfl⟩ (fun hS => ?_)
            generalize (w15.alloc (.cells #[.bool false, .slice none 0 0] 30)) = w16 at S N1 N2 N3 r1 r2 HH hS ⊢
            clear hK K
            try simp only [Act.put, List.setIfInBounds_toArray, List.set_cons_zero, List.set_cons_succ]
            refine wpAnyH_ready (rs := [6]) (by kernel_rfl) (by simp) (AllReadyH.cons ((List.getElem?_toArray ..).trans rfl) (fun K hK => ?_) AllReadyH.nil)
            have c0 := S.c 4 0 rfl rfl
            have f0 := S.f 4 0 rfl
            have c1 := S.c 4 1 rfl rfl
            have f1 := S.f 4 1 rfl
            go_simp
            clear hS c0 f0 c1 f1
            have H := S.hset 4 0 (.bool c1) rfl rfl (by intro q n e; cases e)
            replace S := S.set 4 0 (.bool c1) rfl
            replace N1 := N1.hold H
            replace N2 := N2.hold H
            replace N3 := N3.hold H
            replace r1 := r1.hold H
            replace r2 := r2.hold H
            replace HH := HH.trans H
            clear H
            have H := S.hset 4 1 (.slice q1 j1 J1) rfl rfl (by intro q n e; cases e)
            replace S := S.set 4 1 (.slice q1 j1 J1) rfl
            replace N1 := N1.hold H
            replace N2 := N2.hold H
            replace N3 := N3.hold H
            replace r1 := r1.hold H
            replace r2 := r2.hold H
            replace HH := HH.trans H
            clear H
            refine hK.out _ _ ⟨S.c 0 0 rfl rfl, S.c 0 1 rfl rfl, S.c 1 0 rfl rfl, S.c 1 1 rfl rfl⟩ (fun hS => ?_)
            generalize ((w16.setCell ⟨w4.heap.size, 0, none⟩ (.bool c1)).setCell ⟨w4.heap.size, 1, none⟩ (.slice q1 j1 J1)) = w17 at S N1 N2 N3 r1 r2 HH hS ⊢
            clear hK K
            try simp only [Act.put, List.setIfInBounds_toArray, List.set_cons_zero, List.set_cons_succ]
            refine wpAnyH_ready (rs := [7]) (by kernel_rfl) (by simp) (AllReadyH.cons ((List.getElem?_toArray ..).trans rfl) (fun K hK => ?_) AllReadyH.nil)
            have c0 := S.c 5 0 rfl rfl
            have f0 := S.f 5 0 rfl
            have c1 := S.c 5 1 rfl rfl
            have f1 := S.f 5 1 rfl
            go_simp
            clear hS c0 f0 c1 f1
            have H := S.hset 5 0 (.bool c2) rfl rfl (by intro q n e; cases e)
            replace S := S.set 5 0 (.bool c2) rfl
            replace N1 := N1.hold H
            replace N2 := N2.hold H
            replace N3 := N3.hold H
            replace r1 := r1.hold H
            replace r2 := r2.hold H
            replace HH := HH.trans H
            clear H
            have H := S.hset 5 1 (.slice q2 j2 J2) rfl rfl (by intro q n e; cases e)
            replace S := S.set 5 1 (.slice q2 j2 J2) rfl
            replace N1 := N1.hold H
            replace N2 := N2.hold H
            replace N3 := N3.hold H
            replace r1 := r1.hold H
            replace r2 := r2.hold H
            replace HH := HH.trans H
            clear H
            refine hK.out _ _ ⟨S.c 0 0 rfl rfl, S.c 0 1 rfl rfl, S.c 1 0 rfl rfl, S.c 1 1 rfl rfl⟩ (fun hS => ?_)
            generalize ((w17.setCell ⟨w15.heap.size, 0, none⟩ (.bool c2)).setCell ⟨w15.heap.size, 1, none⟩ (.slice q2 j2 J2)) = w18 at S N1 N2 N3 r1 r2 HH hS ⊢
            clear hK K
            try simp only [Act.put, List.setIfInBounds_toArray, List.set_cons_zero, List.set_cons_succ]
            refine wpAnyH_done (by kernel_rfl) ?_ _
            go_wp2_with fail
            go_meet
            case rel => exact ⟨w4.heap.size, w15.heap.size, c1, q1, j1, J1, m1, c2, q2, j2, J2, m2, rfl, rfl, Sv.of S [0, 1, 2, 3, 4, 5] rfl, e1, r1, e2, r2, HH⟩
          ·
            go_simp
            clear hS
            have H := S.hnew 30 [.bool false, .slice none 0 0]
            replace S := S.alloc 30 [.bool false, .slice none 0 0] (w14.heap.size)
            replace N1 := N1.hold H
            replace N2 := N2.hold H
            replace N3 := N3.hold H
            replace r1 := r1.hold H
            replace HH := HH.trans H
            clear H
            refine hK.out _ _ ⟨S.c 0 0 rfl rfl, S.c 0 1 rfl rfl, S.c 1 0 rfl rfl, S.c 1 1 rfl rfl⟩ (fun hS => ?_)
            generalize (w14.alloc (.cells #[.bool false, .slice none 0 0] 30)) = w19 at S N1 N2 N3 r1 HH hS ⊢
            clear hK K
            try simp only [Act.put, List.setIfInBounds_toArray, List.set_cons_zero, List.set_cons_succ]
            refine wpAnyH_ready (rs := [3]) (by kernel_rfl) (by simp) (AllReadyH.cons ((List.getElem?_toArray ..).trans rfl) (fun K hK => ?_) AllReadyH.nil)
            go_simp
            clear hS
            refine (S.call (sigOf_any ⟨_, _, _, by rw [hz2.out], N2⟩ (nb_max M2.out (by decide)))).mono ?_
            clear S
            rintro e w20 ⟨⟨_, rfl, c2, q2, j2, J2, m2, rfl, e2, r2⟩, S, H⟩
            replace N1 := N1.hold H
            replace N2 := N2.hold H
            replace N3 := N3.hold H
            replace r1 := r1.hold H
            replace HH := HH.trans H
            clear H
            go_wp2_with fail
            refine hK.out _ _ ⟨S.c 0 0 rfl rfl, S.c 0 1 rfl rfl, S.c 1 0 rfl rfl, S.c 1 1 rfl rfl⟩ (fun hS => ?_)
            clear hK K
            try simp only [Act.put, List.setIfInBounds_toArray, List.set_cons_zero, List.set_cons_succ]
            refine wpAnyH_ready (rs := [6]) (by kernel_rfl) (by simp) (AllReadyH.cons ((List.getElem?_toArray ..).trans rfl) (fun K hK => ?_) AllReadyH.nil)
            have c0 := S.c 4 0 rfl rfl
            have f0 := S.f 4 0 rfl
            have c1 := S.c 4 1 rfl rfl
            have f1 := S.f 4 1 rfl
            go_simp
            clear hS c0 f0 c1 f1
            have H := S.hset 4 0 (.bool c1) rfl rfl (by intro q n e; cases e)
            replace S := S.set 4 0 (.bool c1) rfl
            replace N1 := N1.hold H
            replace N2 := N2.hold H
            replace N3 := N3.hold H
            replace r1 := r1.hold H
            replace r2 := r2.hold H
            replace HH := HH.trans H
            clear H
            have H := S.hset 4 1 (.slice q1 j1 J1) rfl rfl (by intro q n e; cases e)
            replace S := S.set 4 1 (.slice q1 j1 J1) rfl
            replace N1 := N1.hold H
            replace N2 := N2.hold H
            replace N3 := N3.hold H
            replace r1 := r1.hold H
            replace r2 := r2.hold H
            replace HH := HH.trans H
            clear H
            refine hK.out _ _ ⟨S.c 0 0 rfl rfl, S.c 0 1 rfl rfl, S.c 1 0 rfl rfl, S.c 1 1 rfl rfl⟩ (fun hS => ?_)
            generalize ((w20.setCell ⟨w4.heap.size, 0, none⟩ (.bool c1)).setCell ⟨w4.heap.size, 1, none⟩ (.slice q1 j1 J1)) = w21 at S N1 N2 N3 r1 r2 HH hS ⊢
            clear hK K
            try simp only [Act.put, List.setIfInBounds_toArray, List.set_cons_zero, List.set_cons_succ]
            refine wpAnyH_ready (rs := [7]) (by kernel_rfl) (by simp) (AllReadyH.cons ((List.getElem?_toArray ..).trans rfl) (fun K hK => ?_) AllReadyH.nil)
            have c0 := S.c 5 0 rfl rfl
            have f0 := S.f 5 0 rfl
            have c1 := S.c 5 1 rfl rfl
            have f1 := S.f 5 1 rfl
            go_simp
            clear hS c0 f0 c1 f1
            have H := S.hset 5 0 (.bool c2) rfl rfl (by intro q n e; cases e)
            replace S := S.set 5 0 (.bool c2) rfl
            replace N1 := N1.hold H
            replace N2 := N2.hold H
            replace N3 := N3.hold H
            replace r1 := r1.hold H
            replace r2 := r2.hold H
            replace HH := HH.trans H
            clear H
            have H := S.hset 5 1 (.slice q2 j2 J2) rfl rfl (by intro q n e; cases e)
            replace S := S.set 5 1 (.slice q2 j2 J2) rfl
            replace N1 := N1.hold H
            replace N2 := N2.hold H
            replace N3 := N3.hold H
            replace r1 := r1.hold H
            replace r2 := r2.hold H
            replace HH := HH.trans H
            clear H
            refine hK.out _ _ ⟨S.c 0 0 rfl rfl, S.c 0 1 rfl rfl, S.c 1 0 rfl rfl, S.c 1 1 rfl rfl⟩ (fun hS => ?_)
            generalize ((w21.setCell ⟨w14.heap.size, 0, none⟩ (.bool c2)).setCell ⟨w14.heap.size, 1, none⟩ (.slice q2 j2 J2)) = w22 at S N1 N2 N3 r1 r2 HH hS ⊢
            clear hK K
            try simp only [Act.put, List.setIfInBounds_toArray, List.set_cons_zero, List.set_cons_succ]
            refine wpAnyH_done (by kernel_rfl) ?_ _
            go_wp2_with fail
            go_meet
            case rel => exact ⟨w4.heap.size, w14.heap.size, c1, q1, j1, J1, m1, c2, q2, j2, J2, m2, rfl, rfl, Sv.of S [0, 1, 2, 3, 4, 5] rfl, e1, r1, e2, r2, HH⟩
        ·
          go_simp
          clear hS
          have H := S.hnew 30 [.bool false, .slice none 0 0]
          replace S := S.alloc 30 [.bool false, .slice none 0 0] (w4.heap.size)
          replace N1 := N1.hold H
          replace N2 := N2.hold H
          replace N3 := N3.hold H
          replace r1 := r1.hold H
          replace HH := HH.trans H
          clear H
          refine hK.out _ _ ⟨S.c 0 0 rfl rfl, S.c 0 1 rfl rfl, S.c 1 0 rfl rfl, S.c 1 1 rfl rfl⟩ (fun hS => ?_)
          generalize (w4.alloc (.cells #[.bool false, .slice none 0 0] 30)) = w23 at S N1 N2 N3 r1 HH hS ⊢
          clear hK K
          try simp only [Act.put, List.setIfInBounds_toArray, List.set_cons_zero, List.set_cons_succ]
          refine wpAnyH_ready (rs := [3, 4]) (by kernel_rfl) (by simp) (AllReadyH.cons ((List.getElem?_toArray ..).trans rfl) (fun K hK => ?_) (AllReadyH.cons ((List.getElem?_toArray ..).trans rfl) (fun K hK => ?_) AllReadyH.nil))
          ·
            go_simp
            clear hS
            refine (S.call (sigOf_any ⟨_, _, _, by rw [hz2.out], N2⟩ (nb_max M2.out (by decide)))).mono ?_
            clear S
            rintro e w24 ⟨⟨_, rfl, c2, q2, j2, J2, m2, rfl, e2, r2⟩, S, H⟩
            replace N1 := N1.hold H
            replace N2 := N2.hold H
            replace N3 := N3.hold H
            replace r1 := r1.hold H
            replace HH := HH.trans H
            clear H
            go_wp2_with fail
            refine hK.out _ _ ⟨S.c 0 0 rfl rfl, S.c 0 1 rfl rfl, S.c 1 0 rfl rfl, S.c 1 1 rfl rfl⟩ (fun hS => ?_)
            clear hK K
            try simp only [Act.put, List.setIfInBounds_toArray, List.set_cons_zero, List.set_cons_succ]
            refine wpAnyH_ready (rs := [4]) (by kernel_rfl) (by simp) (AllReadyH.cons ((List.getElem?_toArray ..).trans rfl) (fun K hK => ?_) AllReadyH.nil)
            go_simp
            clear hS
            have H := S.hnew 30 [.bool false, .slice none 0 0]
            replace S := S.alloc 30 [.bool false, .slice none 0 0] (w24.heap.size)
            replace N1 := N1.hold H
            replace N2 := N2.hold H
            replace N3 := N3.hold H
            replace r1 := r1.hold H
            replace r2 := r2.hold H
            replace HH := HH.trans H
            clear H
            refine hK.out _ _ ⟨S.c 0 0 rfl rfl, S.c 0 1 rfl rfl, S.c 1 0 rfl rfl, S.c 1 1 rfl rfl⟩ (fun hS => ?_)
            generalize (w24.alloc (.cells #[.bool false, .slice none 0 0] 30)) = w25 at S N1 N2 N3 r1 r2 HH hS ⊢
            clear hK K
            try simp only [Act.put, List.setIfInBounds_toArray, List.set_cons_zero, List.set_cons_succ]
            refine wpAnyH_ready (rs := [6]) (by kernel_rfl) (by simp) (AllReadyH.cons ((List.getElem?_toArray ..).trans rfl) (fun K hK => ?_) AllReadyH.nil)
            have c0 := S.c 5 0 rfl rfl
            have f0 := S.f 5 0 rfl
            have c1 := S.c 5 1 rfl rfl
            have f1 := S.f 5 1 rfl
            go_simp
            clear hS c0 f0 c1 f1
            have H := S.hset 5 0 (.bool c1) rfl rfl (by intro q n e; cases e)
            replace S := S.set 5 0 (.bool c1) rfl
            replace N1 := N1.hold H
            replace N2 := N2.hold H
            replace N3 := N3.hold H
            replace r1 := r1.hold H
            replace r2 := r2.hold H
            replace HH := HH.trans H
            clear H
            have H := S.hset 5 1 (.slice q1 j1 J1) rfl rfl (by intro q n e; cases e)
            replace S := S.set 5 1 (.slice q1 j1 J1) rfl
            replace N1 := N1.hold H
            replace N2 := N2.hold H
            replace N3 := N3.hold H
            replace r1 := r1.hold H
            replace r2 := r2.hold H
            replace HH := HH.trans H
            clear H
            refine hK.out _ _ ⟨S.c 0 0 rfl rfl, S.c 0 1 rfl rfl, S.c 1 0 rfl rfl, S.c 1 1 rfl rfl⟩ (fun hS => ?_)
            generalize ((w25.setCell ⟨w24.heap.size, 0, none⟩ (.bool c1)).setCell ⟨w24.heap.size, 1, none⟩ (.slice q1 j1 J1)) = w26 at S N1 N2 N3 r1 r2 HH hS ⊢
            clear hK K
            try simp only [Act.put, List.setIfInBounds_toArray, List.set_cons_zero, List.set_cons_succ]
            refine wpAnyH_ready (rs := [7]) (by kernel_rfl) (by simp) (AllReadyH.cons ((List.getElem?_toArray ..).trans rfl) (fun K hK => ?_) AllReadyH.nil)
            have c0 := S.c 4 0 rfl rfl
            have f0 := S.f 4 0 rfl
            have c1 := S.c 4 1 rfl rfl
            have f1 := S.f 4 1 rfl
            go_simp
            clear hS c0 f0 c1 f1
            have H := S.hset 4 0 (.bool c2) rfl rfl (by intro q n e; cases e)
            replace S := S.set 4 0 (.bool c2) rfl
            replace N1 := N1.hold H
            replace N2 := N2.hold H
            replace N3 := N3.hold H
            replace r1 := r1.hold H
            replace r2 := r2.hold H
            replace HH := HH.trans H
            clear H
            have H := S.hset 4 1 (.slice q2 j2 J2) rfl rfl (by intro q n e; cases e)
            replace S := S.set 4 1 (.slice q2 j2 J2) rfl
            replace N1 := N1.hold H
            replace N2 := N2.hold H
            replace N3 := N3.hold H
            replace r1 := r1.hold H
            replace r2 := r2.hold H
            replace HH := HH.trans H
            clear H
            refine hK.out _ _ ⟨S.c 0 0 rfl rfl, S.c 0 1 rfl rfl, S.c 1 0 rfl rfl, S.c 1 1 rfl rfl⟩ (fun hS => ?_)
            generalize ((w26.setCell ⟨w4.heap.size, 0, none⟩ (.bool c2)).setCell ⟨w4.heap.size, 1, none⟩ (.slice q2 j2 J2)) = w27 at S N1 N2 N3 r1 r2 HH hS ⊢
            clear hK K
            try simp only [Act.put, List.setIfInBounds_toArray, List.set_cons_zero, List.set_cons_succ]
            refine wpAnyH_done (by kernel_rfl) ?_ _
            go_wp2_with fail
            go_meet
            case rel => exact ⟨w24.heap.size, w4.heap.size, c1, q1, j1, J1, m1, c2, q2, j2, J2, m2, rfl, rfl, Sv.of S [0, 1, 2, 3, 5, 4] rfl, e1, r1, e2, r2, HH⟩
          ·
            go_simp
            clear hS
            have H := S.hnew 30 [.bool false, .slice none 0 0]
            replace S := S.alloc 30 [.bool false, .slice none 0 0] (w23.heap.size)
            replace N1 := N1.hold H
            replace N2 := N2.hold H
            replace N3 := N3.hold H
            replace r1 := r1.hold H
            replace HH := HH.trans H
            clear H
            refine hK.out _ _ ⟨S.c 0 0 rfl rfl, S.c 0 1 rfl rfl, S.c 1 0 rfl rfl, S.c 1 1 rfl rfl⟩ (fun hS => ?_)
            generalize (w23.alloc (.cells #[.bool false, .slice none 0 0] 30)) = w28 at S N1 N2 N3 r1 HH hS ⊢
            clear hK K
            try simp only [Act.put, List.setIfInBounds_toArray, List.set_cons_zero, List.set_cons_succ]
            refine wpAnyH_ready (rs := [3]) (by kernel_rfl) (by simp) (AllReadyH.cons ((List.getElem?_toArray ..).trans rfl) (fun K hK => ?_) AllReadyH.nil)
            go_simp
            clear hS
            refine (S.call (sigOf_any ⟨_, _, _, by rw [hz2.out], N2⟩ (nb_max M2.out (by decide)))).mono ?_
            clear S
            rintro e w29 ⟨⟨_, rfl, c2, q2, j2, J2, m2, rfl, e2, r2⟩, S, H⟩
            replace N1 := N1.hold H
            replace N2 := N2.hold H
            replace N3 := N3.hold H
            replace r1 := r1.hold H
            replace HH := HH.trans H
            clear H
            go_wp2_with fail
            refine hK.out _ _ ⟨S.c 0 0 rfl rfl, S.c 0 1 rfl rfl, S.c 1 0 rfl rfl, S.c 1 1 rfl rfl⟩ (fun hS => ?_)
            clear hK K
            try simp only [Act.put, List.setIfInBounds_toArray, List.set_cons_zero, List.set_cons_succ]
            refine wpAnyH_ready (rs := [6]) (by kernel_rfl) (by simp) (AllReadyH.cons ((List.getElem?_toArray ..).trans rfl) (fun K hK => ?_) AllReadyH.nil)
            have c0 := S.c 5 0 rfl rfl
            have f0 := S.f 5 0 rfl
            have c1 := S.c 5 1 rfl rfl
            have f1 := S.f 5 1 rfl
            go_simp
            clear hS c0 f0 c1 f1
            have H := S.hset 5 0 (.bool c1) rfl rfl (by intro q n e; cases e)
            replace S := S.set 5 0 (.bool c1) rfl
            replace N1 := N1.hold H
            replace N2 := N2.hold H
            replace N3 := N3.hold H
            replace r1 := r1.hold H
            replace r2 := r2.hold H
            replace HH := HH.trans H
            clear H
            have H := S.hset 5 1 (.slice q1 j1 J1) rfl rfl (by intro q n e; cases e)
            replace S := S.set 5 1 (.slice q1 j1 J1) rfl
            replace N1 := N1.hold H
            replace N2 := N2.hold H
            replace N3 := N3.hold H
            replace r1 := r1.hold H
            replace r2 := r2.hold H
            replace HH := HH.trans H
            clear H
            refine hK.out _ _ ⟨S.c 0 0 rfl rfl, S.c 0 1 rfl rfl, S.c 1 0 rfl rfl, S.c 1 1 rfl rfl⟩ (fun hS => ?_)
            generalize ((w29.setCell ⟨w23.heap.size, 0, none⟩ (.bool c1)).setCell ⟨w23.heap.size, 1, none⟩ (.slice q1 j1 J1)) = w30 at S N1 N2 N3 r1 r2 HH hS ⊢
            clear hK K
            try simp only [Act.put, List.setIfInBounds_toArray, List.set_cons_zero, List.set_cons_succ]
            refine wpAnyH_ready (rs := [7]) (by kernel_rfl) (by simp) (AllReadyH.cons ((List.getElem?_toArray ..).trans rfl) (fun K hK => ?_) AllReadyH.nil)
            have c0 := S.c 4 0 rfl rfl
            have f0 := S.f 4 0 rfl
            have c1 := S.c 4 1 rfl rfl
            have f1 := S.f 4 1 rfl
            go_simp
            clear hS c0 f0 c1 f1
            have H := S.hset 4 0 (.bool c2) rfl rfl (by intro q n e; cases e)
            replace S := S.set 4 0 (.bool c2) rfl
            replace N1 := N1.hold H
            replace N2 := N2.hold H
            replace N3 := N3.hold H
            replace r1 := r1.hold H
            replace r2 := r2.hold H
            replace HH := HH.trans H
            clear H
            have H := S.hset 4 1 (.slice q2 j2 J2) rfl rfl (by intro q n e; cases e)
            replace S := S.set 4 1 (.slice q2 j2 J2) rfl
            replace N1 := N1.hold H
            replace N2 := N2.hold H
            replace N3 := N3.hold H
            replace r1 := r1.hold H
            replace r2 := r2.hold H
            replace HH := HH.trans H
            clear H
            refine hK.out _ _ ⟨S.c 0 0 rfl rfl, S.c 0 1 rfl rfl, S.c 1 0 rfl rfl, S.c 1 1 rfl rfl⟩ (fun hS => ?_)
            generalize ((w30.setCell ⟨w4.heap.size, 0, none⟩ (.bool c2)).setCell ⟨w4.heap.size, 1, none⟩ (.slice q2 j2 J2)) = w31 at S N1 N2 N3 r1 r2 HH hS ⊢
            clear hK K
            try simp only [Act.put, List.setIfInBounds_toArray, List.set_cons_zero, List.set_cons_succ]
            refine wpAnyH_done (by kernel_rfl) ?_ _
            go_wp2_with fail
            go_meet
            case rel => exact ⟨w23.heap.size, w4.heap.size, c1, q1, j1, J1, m1, c2, q2, j2, J2, m2, rfl, rfl, Sv.of S [0, 1, 2, 3, 5, 4] rfl, e1, r1, e2, r2, HH⟩
      ·
        go_simp
        clear hS
        have H := S.hnew 30 [.bool false, .slice none 0 0]
        replace S := S.alloc 30 [.bool false, .slice none 0 0] (w3.heap.size)
        replace N1 := N1.hold H
        replace N2 := N2.hold H
        replace N3 := N3.hold H
        replace HH := HH.trans H
        clear H
        refine hK.out _ _ ⟨S.c 0 0 rfl rfl, S.c 0 1 rfl rfl, S.c 1 0 rfl rfl, S.c 1 1 rfl rfl⟩ (fun hS => ?_)
        generalize (w3.alloc (.cells #[.bool false, .slice none 0 0] 30)) = w32 at S N1 N2 N3 HH hS ⊢
        clear hK K
        try simp only [Act.put, List.setIfInBounds_toArray, List.set_cons_zero, List.set_cons_succ]
        refine wpAnyH_ready (rs := [1, 5]) (by kernel_rfl) (by simp) (AllReadyH.cons ((List.getElem?_toArray ..).trans rfl) (fun K hK => ?_) (AllReadyH.cons ((List.getElem?_toArray ..).trans rfl) (fun K hK => ?_) AllReadyH.nil))
        ·
          go_simp
          clear hS
          refine (S.call (sigOf_any ⟨_, _, _, by rw [hz1.out], N1⟩ (nb_max M1.out (by decide)))).mono ?_
          clear S
          rintro e w33 ⟨⟨_, rfl, c1, q1, j1, J1, m1, rfl, e1, r1⟩, S, H⟩
          replace N1 := N1.hold H
          replace N2 := N2.hold H
          replace N3 := N3.hold H
          replace HH := HH.trans H
          clear H
          go_wp2_with fail
          refine hK.out _ _ ⟨S.c 0 0 rfl rfl, S.c 0 1 rfl rfl, S.c 1 0 rfl rfl, S.c 1 1 rfl rfl⟩ (fun hS => ?_)
          clear hK K
          try simp only [Act.put, List.setIfInBounds_toArray, List.set_cons_zero, List.set_cons_succ]
          refine wpAnyH_ready (rs := [3, 5]) (by kernel_rfl) (by simp) (AllReadyH.cons ((List.getElem?_toArray ..).trans rfl) (fun K hK => ?_) (AllReadyH.cons ((List.getElem?_toArray ..).trans rfl) (fun K hK => ?_) AllReadyH.nil))
          ·
            go_simp
            clear hS
            refine (S.call (sigOf_any ⟨_, _, _, by rw [hz2.out], N2⟩ (nb_max M2.out (by decide)))).mono ?_
            clear S
            rintro e w34 ⟨⟨_, rfl, c2, q2, j2, J2, m2, rfl, e2, r2⟩, S, H⟩
            replace N1 := N1.hold H
            replace N2 := N2.hold H
            replace N3 := N3.hold H
            replace r1 := r1.hold H
            replace HH := HH.trans H
            clear H
            go_wp2_with fail
            refine hK.out _ _ ⟨S.c 0 0 rfl rfl, S.c 0 1 rfl rfl, S.c 1 0 rfl rfl, S.c 1 1 rfl rfl⟩ (fun hS => ?_)
            clear hK K
            try simp only [Act.put, List.setIfInBounds_toArray, List.set_cons_zero, List.set_cons_succ]
            refine wpAnyH_ready (rs := [5]) (by kernel_rfl) (by simp) (AllReadyH.cons ((List.getElem?_toArray ..).trans rfl) (fun K hK => ?_) AllReadyH.nil)
            go_simp
            clear hS
            have H := S.hnew 30 [.bool false, .slice none 0 0]
            replace S := S.alloc 30 [.bool false, .slice none 0 0] (w34.heap.size)
            replace N1 := N1.hold H
            replace N2 := N2.hold H
            replace N3 := N3.hold H
            replace r1 := r1.hold H
            replace r2 := r2.hold H
            replace HH := HH.trans H
            clear H
            refine hK.out _ _ ⟨S.c 0 0 rfl rfl, S.c 0 1 rfl rfl, S.c 1 0 rfl rfl, S.c 1 1 rfl rfl⟩ (fun hS => ?_)
            generalize (w34.alloc (.cells #[.bool false, .slice none 0 0] 30)) = w35 at S N1 N2 N3 r1 r2 HH hS ⊢
            clear hK K
            try simp only [Act.put, List.setIfInBounds_toArray, List.set_cons_zero, List.set_cons_succ]
            refine wpAnyH_ready (rs := [6]) (by kernel_rfl) (by simp) (AllReadyH.cons ((List.getElem?_toArray ..).trans rfl) (fun K hK => ?_) AllReadyH.nil)
            have c0 := S.c 4 0 rfl rfl
            have f0 := S.f 4 0 rfl
            have c1 := S.c 4 1 rfl rfl
            have f1 := S.f 4 1 rfl
            go_simp
            clear hS c0 f0 c1 f1
            have H := S.hset 4 0 (.bool c1) rfl rfl (by intro q n e; cases e)
            replace S := S.set 4 0 (.bool c1) rfl
            replace N1 := N1.hold H
            replace N2 := N2.hold H
            replace N3 := N3.hold H
            replace r1 := r1.hold H
            replace r2 := r2.hold H
            replace HH := HH.trans H
            clear H
            have H := S.hset 4 1 (.slice q1 j1 J1) rfl rfl (by intro q n e; cases e)
            replace S := S.set 4 1 (.slice q1 j1 J1) rfl
            replace N1 := N1.hold H
            replace N2 := N2.hold H
            replace N3 := N3.hold H
            replace r1 := r1.hold H
            replace r2 := r2.hold H
            replace HH := HH.trans H
            clear H
            refine hK.out _ _ ⟨S.c 0 0 rfl rfl, S.c 0 1 rfl rfl, S.c 1 0 rfl rfl, S.c 1 1 rfl rfl⟩ (fun hS => ?_)
            generalize ((w35.setCell ⟨w3.heap.size, 0, none⟩ (.bool c1)).setCell ⟨w3.heap.size, 1, none⟩ (.slice q1 j1 J1)) = w36 at S N1 N2 N3 r1 r2 HH hS ⊢
            clear hK K
            try simp only [Act.put, List.setIfInBounds_toArray, List.set_cons_zero, List.set_cons_succ]
            refine wpAnyH_ready (rs := [7]) (by kernel_rfl) (by simp) (AllReadyH.cons ((List.getElem?_toArray ..).trans rfl) (fun K hK => ?_) AllReadyH.nil)
            have c0 := S.c 5 0 rfl rfl
            have f0 := S.f 5 0 rfl
            have c1 := S.c 5 1 rfl rfl
            have f1 := S.f 5 1 rfl
            go_simp
            clear hS c0 f0 c1 f1
            have H := S.hset 5 0 (.bool c2) rfl rfl (by intro q n e; cases e)
            replace S := S.set 5 0 (.bool c2) rfl
            replace N1 := N1.hold H
            replace N2 := N2.hold H
            replace N3 := N3.hold H
            replace r1 := r1.hold H
            replace r2 := r2.hold H
            replace HH := HH.trans H
            clear H
            have H := S.hset 5 1 (.slice q2 j2 J2) rfl rfl (by intro q n e; cases e)
            replace S := S.set 5 1 (.slice q2 j2 J2) rfl
            replace N1 := N1.hold H
            replace N2 := N2.hold H
            replace N3 := N3.hold H
            replace r1 := r1.hold H
            replace r2 := r2.hold H
            replace HH := HH.trans H
            clear H
            refine hK.out _ _ ⟨S.c 0 0 rfl rfl, S.c 0 1 rfl rfl, S.c 1 0 rfl rfl, S.c 1 1 rfl rfl⟩ (fun hS => ?_)
            generalize ((w36.setCell ⟨w34.heap.size, 0, none⟩ (.bool c2)).setCell ⟨w34.heap.size, 1, none⟩ (.slice q2 j2 J2)) = w37 at S N1 N2 N3 r1 r2 HH hS ⊢
            clear hK K
            try simp only [Act.put, List.setIfInBounds_toArray, List.set_cons_zero, List.set_cons_succ]
            refine wpAnyH_done (by kernel_rfl) ?_ _
            go_wp2_with fail
            go_meet
            case rel => exact ⟨w3.heap.size, w34.heap.size, c1, q1, j1, J1, m1, c2, q2, j2, J2, m2, rfl, rfl, Sv.of S [0, 1, 2, 3, 4, 5] rfl, e1, r1, e2, r2, HH⟩
          ·
            go_simp
            clear hS
            have H := S.hnew 30 [.bool false, .slice none 0 0]
            replace S := S.alloc 30 [.bool false, .slice none 0 0] (w33.heap.size)
            replace N1 := N1.hold H
            replace N2 := N2.hold H
            replace N3 := N3.hold H
            replace r1 := r1.hold H
            replace HH := HH.trans H
            clear H
            refine hK.out _ _ ⟨S.c 0 0 rfl rfl, S.c 0 1 rfl rfl, S.c 1 0 rfl rfl, S.c 1 1 rfl rfl⟩ (fun hS => ?_)
            generalize (w33.alloc (.cells #[.bool false, .slice none 0 0] 30)) = w38 at S N1 N2 N3 r1 HH hS ⊢
            clear hK K
            try simp only [Act.put, List.setIfInBounds_toArray, List.set_cons_zero, List.set_cons_succ]
            refine wpAnyH_ready (rs := [3]) (by kernel_rfl) (by simp) (AllReadyH.cons ((List.getElem?_toArray ..).trans rfl) (fun K hK => ?_) AllReadyH.nil)
            go_simp
            clear hS
            refine (S.call (sigOf_any ⟨_, _, _, by rw [hz2.out], N2⟩ (nb_max M2.out (by decide)))).mono ?_
            clear S
            rintro e w39 ⟨⟨_, rfl, c2, q2, j2, J2, m2, rfl, e2, r2⟩, S, H⟩
            replace N1 := N1.hold H
            replace N2 := N2.hold H
            replace N3 := N3.hold H
            replace r1 := r1.hold H
            replace HH := HH.trans H
            clear H
            go_wp2_with fail
            refine hK.out _ _ ⟨S.c 0 0 rfl rfl, S.c 0 1 rfl rfl, S.c 1 0 rfl rfl, S.c 1 1 rfl rfl⟩ (fun hS => ?_)
            clear hK K
            try simp only [Act.put, List.setIfInBounds_toArray, List.set_cons_zero, List.set_cons_succ]
            refine wpAnyH_ready (rs := [6]) (by kernel_rfl) (by simp) (AllReadyH.cons ((List.getElem?_toArray ..).trans rfl) (fun K hK => ?_) AllReadyH.nil)
            have c0 := S.c 4 0 rfl rfl
            have f0 := S.f 4 0 rfl
            have c1 := S.c 4 1 rfl rfl
            have f1 := S.f 4 1 rfl
            go_simp
            clear hS c0 f0 c1 f1
            have H := S.hset 4 0 (.bool c1) rfl rfl (by intro q n e; cases e)
            replace S := S.set 4 0 (.bool c1) rfl
            replace N1 := N1.hold H
            replace N2 := N2.hold H
            replace N3 := N3.hold H
            replace r1 := r1.hold H
            replace r2 := r2.hold H
            replace HH := HH.trans H
            clear H
            have H := S.hset 4 1 (.slice q1 j1 J1) rfl rfl (by intro q n e; cases e)
            replace S := S.set 4 1 (.slice q1 j1 J1) rfl
            replace N1 := N1.hold H
            replace N2 := N2.hold H
            replace N3 := N3.hold H
            replace r1 := r1.hold H
            replace r2 := r2.hold H
            replace HH := HH.trans H
            clear H
            refine hK.out _ _ ⟨S.c 0 0 rfl rfl, S.c 0 1 rfl rfl, S.c 1 0 rfl rfl, S.c 1 1 rfl rfl⟩ (fun hS => ?_)
            generalize ((w39.setCell ⟨w3.heap.size, 0, none⟩ (.bool c1)).setCell ⟨w3.heap.size, 1, none⟩ (.slice q1 j1 J1)) = w40 at S N1 N2 N3 r1 r2 HH hS ⊢
            clear hK K
            try simp only [Act.put, List.setIfInBounds_toArray, List.set_cons_zero, List.set_cons_succ]
            refine wpAnyH_ready (rs := [7]) (by kernel_rfl) (by simp) (AllReadyH.cons ((List.getElem?_toArray ..).trans rfl) (fun K hK => ?_) AllReadyH.nil)
            have c0 := S.c 5 0 rfl rfl
            have f0 := S.f 5 0 rfl
            have c1 := S.c 5 1 rfl rfl
            have f1 := S.f 5 1 rfl
            go_simp
            clear hS c0 f0 c1 f1
            have H := S.hset 5 0 (.bool c2) rfl rfl (by intro q n e; cases e)
            replace S := S.set 5 0 (.bool c2) rfl
            replace N1 := N1.hold H
            replace N2 := N2.hold H
            replace N3 := N3.hold H
            replace r1 := r1.hold H
            replace r2 := r2.hold H
            replace HH := HH.trans H
            clear H
            have H := S.hset 5 1 (.slice q2 j2 J2) rfl rfl (by intro q n e; cases e)
            replace S := S.set 5 1 (.slice q2 j2 J2) rfl
            replace N1 := N1.hold H
            replace N2 := N2.hold H
            replace N3 := N3.hold H
            replace r1 := r1.hold H
            replace r2 := r2.hold H
            replace HH := HH.trans H
            clear H
            refine hK.out _ _ ⟨S.c 0 0 rfl rfl, S.c 0 1 rfl rfl, S.c 1 0 rfl rfl, S.c 1 1 rfl rfl⟩ (fun hS => ?_)
            generalize ((w40.setCell ⟨w33.heap.size, 0, none⟩ (.bool c2)).setCell ⟨w33.heap.size, 1, none⟩ (.slice q2 j2 J2)) = w41 at S N1 N2 N3 r1 r2 HH hS ⊢
            clear hK K
            try simp only [Act.put, List.setIfInBounds_toArray, List.set_cons_zero, List.set_cons_succ]
            refine wpAnyH_done (by kernel_rfl) ?_ _
            go_wp2_with fail
            go_meet
            case rel => exact ⟨w3.heap.size, w33.heap.size, c1, q1, j1, J1, m1, c2, q2, j2, J2, m2, rfl, rfl, Sv.of S [0, 1, 2, 3, 4, 5] rfl, e1, r1, e2, r2, HH⟩
        ·
          go_simp
          clear hS
          have H := S.hnew 30 [.bool false, .slice none 0 0]
          replace S := S.alloc 30 [.bool false, .slice none 0 0] (w32.heap.size)
          replace N1 := N1.hold H
          replace N2 := N2.hold H
          replace N3 := N3.hold H
          replace HH := HH.trans H
          clear H
          refine hK.out _ _ ⟨S.c 0 0 rfl rfl, S.c 0 1 rfl rfl, S.c 1 0 rfl rfl, S.c 1 1 rfl rfl⟩ (fun hS => ?_)
          generalize (w32.alloc (.cells #[.bool false, .slice none 0 0] 30)) = w42 at S N1 N2 N3 HH hS ⊢
          clear hK K
          try simp only [Act.put, List.setIfInBounds_toArray, List.set_cons_zero, List.set_cons_succ]
          refine wpAnyH_ready (rs := [1]) (by kernel_rfl) (by simp) (AllReadyH.cons ((List.getElem?_toArray ..).trans rfl) (fun K hK => ?_) AllReadyH.nil)
          go_simp
          clear hS
          refine (S.call (sigOf_any ⟨_, _, _, by rw [hz1.out], N1⟩ (nb_max M1.out (by decide)))).mono ?_
          clear S
          rintro e w43 ⟨⟨_, rfl, c1, q1, j1, J1, m1, rfl, e1, r1⟩, S, H⟩
          replace N1 := N1.hold H
          replace N2 := N2.hold H
          replace N3 := N3.hold H
          replace HH := HH.trans H
          clear H
          go_wp2_with fail
          refine hK.out _ _ ⟨S.c 0 0 rfl rfl, S.c 0 1 rfl rfl, S.c 1 0 rfl rfl, S.c 1 1 rfl rfl⟩ (fun hS => ?_)
          clear hK K
          try simp only [Act.put, List.setIfInBounds_toArray, List.set_cons_zero, List.set_cons_succ]
          refine wpAnyH_ready (rs := [3]) (by kernel_rfl) (by simp) (AllReadyH.cons ((List.getElem?_toArray ..).trans rfl) (fun K hK => ?_) AllReadyH.nil)
          go_simp
          clear hS
          refine (S.call (sigOf_any ⟨_, _, _, by rw [hz2.out], N2⟩ (nb_max M2.out (by decide)))).mono ?_
          clear S
          rintro e w44 ⟨⟨_, rfl, c2, q2, j2, J2, m2, rfl, e2, r2⟩, S, H⟩
          replace N1 := N1.hold H
          replace N2 := N2.hold H
          replace N3 := N3.hold H
          replace r1 := r1.hold H
          replace HH := HH.trans H
          clear H
          go_wp2_with fail
          refine hK.out _ _ ⟨S.c 0 0 rfl rfl, S.c 0 1 rfl rfl, S.c 1 0 rfl rfl, S.c 1 1 rfl rfl⟩ (fun hS => ?_)
          clear hK K
          try simp only [Act.put, List.setIfInBounds_toArray, List.set_cons_zero, List.set_cons_succ]
          refine wpAnyH_ready (rs := [6]) (by kernel_rfl) (by simp) (AllReadyH.cons ((List.getElem?_toArray ..).trans rfl) (fun K hK => ?_) AllReadyH.nil)
          have c0 := S.c 4 0 rfl rfl
          have f0 := S.f 4 0 rfl
          have c1 := S.c 4 1 rfl rfl
          have f1 := S.f 4 1 rfl
          go_simp
          clear hS c0 f0 c1 f1
          have H := S.hset 4 0 (.bool c1) rfl rfl (by intro q n e; cases e)
          replace S := S.set 4 0 (.bool c1) rfl
          replace N1 := N1.hold H
          replace N2 := N2.hold H
          replace N3 := N3.hold H
          replace r1 := r1.hold H
          replace r2 := r2.hold H
          replace HH := HH.trans H
          clear H
          have H := S.hset 4 1 (.slice q1 j1 J1) rfl rfl (by intro q n e; cases e)
          replace S := S.set 4 1 (.slice q1 j1 J1) rfl
          replace N1 := N1.hold H
          replace N2 := N2.hold H
          replace N3 := N3.hold H
          replace r1 := r1.hold H
          replace r2 := r2.hold H
          replace HH := HH.trans H
          clear H
          refine hK.out _ _ ⟨S.c 0 0 rfl rfl, S.c 0 1 rfl rfl, S.c 1 0 rfl rfl, S.c 1 1 rfl rfl⟩ (fun hS => ?_)
          generalize ((w44.setCell ⟨w3.heap.size, 0, none⟩ (.bool c1)).setCell ⟨w3.heap.size, 1, none⟩ (.slice q1 j1 J1)) = w45 at S N1 N2 N3 r1 r2 HH hS ⊢
          clear hK K
          try simp only [Act.put, List.setIfInBounds_toArray, List.set_cons_zero, List.set_cons_succ]
          refine wpAnyH_ready (rs := [7]) (by kernel_rfl) (by simp) (AllReadyH.cons ((List.getElem?_toArray ..).trans rfl) (fun K hK => ?_) AllReadyH.nil)
          have c0 := S.c 5 0 rfl rfl
          have f0 := S.f 5 0 rfl
          have c1 := S.c 5 1 rfl rfl
          have f1 := S.f 5 1 rfl
          go_simp
          clear hS c0 f0 c1 f1
          have H := S.hset 5 0 (.bool c2) rfl rfl (by intro q n e; cases e)
          replace S := S.set 5 0 (.bool c2) rfl
          replace N1 := N1.hold H
          replace N2 := N2.hold H
          replace N3 := N3.hold H
          replace r1 := r1.hold H
          replace r2 := r2.hold H
          replace HH := HH.trans H
          clear H
          have H := S.hset 5 1 (.slice q2 j2 J2) rfl rfl (by intro q n e; cases e)
          replace S := S.set 5 1 (.slice q2 j2 J2) rfl
          replace N1 := N1.hold H
          replace N2 := N2.hold H
          replace N3 := N3.hold H
          replace r1 := r1.hold H
          replace r2 := r2.hold H
          replace HH := HH.trans H
          clear H
          refine hK.out _ _ ⟨S.c 0 0 rfl rfl, S.c 0 1 rfl rfl, S.c 1 0 rfl rfl, S.c 1 1 rfl rfl⟩ (fun hS => ?_)
          generalize ((w45.setCell ⟨w32.heap.size, 0, none⟩ (.bool c2)).setCell ⟨w32.heap.size, 1, none⟩ (.slice q2 j2 J2)) = w46 at S N1 N2 N3 r1 r2 HH hS ⊢
          clear hK K
          try simp only [Act.put, List.setIfInBounds_toArray, List.set_cons_zero, List.set_cons_succ]
          refine wpAnyH_done (by kernel_rfl) ?_ _
          go_wp2_with fail
          go_meet
          case rel => exact ⟨w3.heap.size, w32.heap.size, c1, q1, j1, J1, m1, c2, q2, j2, J2, m2, rfl, rfl, Sv.of S [0, 1, 2, 3, 4, 5] rfl, e1, r1, e2, r2, HH⟩
      ·
        go_simp
        clear hS
        have H := S.hnew 30 [.bool false, .slice none 0 0]
        replace S := S.alloc 30 [.bool false, .slice none 0 0] (w3.heap.size)
        replace N1 := N1.hold H
        replace N2 := N2.hold H
        replace N3 := N3.hold H
        replace HH := HH.trans H
        clear H
        refine hK.out _ _ ⟨S.c 0 0 rfl rfl, S.c 0 1 rfl rfl, S.c 1 0 rfl rfl, S.c 1 1 rfl rfl⟩ (fun hS => ?_)
        generalize (w3.alloc (.cells #[.bool false, .slice none 0 0] 30)) = w47 at S N1 N2 N3 HH hS ⊢
        clear hK K
        try simp only [Act.put, List.setIfInBounds_toArray, List.set_cons_zero, List.set_cons_succ]
        refine wpAnyH_ready (rs := [1, 4]) (by kernel_rfl) (by simp) (AllReadyH.cons ((List.getElem?_toArray ..).trans rfl) (fun K hK => ?_) (AllReadyH.cons ((List.getElem?_toArray ..).trans rfl) (fun K hK => ?_) AllReadyH.nil))
        ·
          go_simp
          clear hS
          refine (S.call (sigOf_any ⟨_, _, _, by rw [hz1.out], N1⟩ (nb_max M1.out (by decide)))).mono ?_
          clear S
          rintro e w48 ⟨⟨_, rfl, c1, q1, j1, J1, m1, rfl, e1, r1⟩, S, H⟩
          replace N1 := N1.hold H
          replace N2 := N2.hold H
          replace N3 := N3.hold H
          replace HH := HH.trans H
          clear H
          go_wp2_with fail
          refine hK.out _ _ ⟨S.c 0 0 rfl rfl, S.c 0 1 rfl rfl, S.c 1 0 rfl rfl, S.c 1 1 rfl rfl⟩ (fun hS => ?_)
          clear hK K
          try simp only [Act.put, List.setIfInBounds_toArray, List.set_cons_zero, List.set_cons_succ]
          refine wpAnyH_ready (rs := [3, 4]) (by kernel_rfl) (by simp) (AllReadyH.cons ((List.getElem?_toArray ..).trans rfl) (fun K hK => ?_) (AllReadyH.cons ((List.getElem?_toArray ..).trans rfl) (fun K hK => ?_) AllReadyH.nil))
          ·
            go_simp
            clear hS
            refine (S.call (sigOf_any ⟨_, _, _, by rw [hz2.out], N2⟩ (nb_max M2.out (by decide)))).mono ?_
            clear S
            rintro e w49 ⟨⟨_, rfl, c2, q2, j2, J2, m2, rfl, e2, r2⟩, S, H⟩
            replace N1 := N1.hold H
            replace N2 := N2.hold H
            replace N3 := N3.hold H
            replace r1 := r1.hold H
            replace HH := HH.trans H
            clear H
            go_wp2_with fail
            refine hK.out _ _ ⟨S.c 0 0 rfl rfl, S.c 0 1 rfl rfl, S.c 1 0 rfl rfl, S.c 1 1 rfl rfl⟩ (fun hS => ?_)
            clear hK K
            try simp only [Act.put, List.setIfInBounds_toArray, List.set_cons_zero, List.set_cons_succ]
            refine wpAnyH_ready (rs := [4]) (by kernel_rfl) (by simp) (AllReadyH.cons ((List.getElem?_toArray ..).trans rfl) (fun K hK => ?_) AllReadyH.nil)
            go_simp
            clear hS
            have H := S.hnew 30 [.bool false, .slice none 0 0]
            replace S := S.alloc 30 [.bool false, .slice none 0 0] (w49.heap.size)
            replace N1 := N1.hold H
            replace N2 := N2.hold H
            replace N3 := N3.hold H
            replace r1 := r1.hold H
            replace r2 := r2.hold H
            replace HH := HH.trans H
            clear H
            refine hK.out _ _ ⟨S.c 0 0 rfl rfl, S.c 0 1 rfl rfl, S.c 1 0 rfl rfl, S.c 1 1 rfl rfl⟩ (fun hS => ?_)
            generalize (w49.alloc (.cells #[.bool false, .slice none 0 0] 30)) = w50 at S N1 N2 N3 r1 r2 HH hS ⊢
            clear hK K
            try simp only [Act.put, List.setIfInBounds_toArray, List.set_cons_zero, List.set_cons_succ]
            refine wpAnyH_ready (rs := [6]) (by kernel_rfl) (by simp) (AllReadyH.cons ((List.getElem?_toArray ..).trans rfl) (fun K hK => ?_) AllReadyH.nil)
            have c0 := S.c 5 0 rfl rfl
            have f0 := S.f 5 0 rfl
            have c1 := S.c 5 1 rfl rfl
            have f1 := S.f 5 1 rfl
            go_simp
            clear hS c0 f0 c1 f1
            have H := S.hset 5 0 (.bool c1) rfl rfl (by intro q n e; cases e)
            replace S := S.set 5 0 (.bool c1) rfl
            replace N1 := N1.hold H
            replace N2 := N2.hold H
            replace N3 := N3.hold H
            replace r1 := r1.hold H
            replace r2 := r2.hold H
            replace HH := HH.trans H
            clear H
            have H := S.hset 5 1 (.slice q1 j1 J1) rfl rfl (by intro q n e; cases e)
            replace S := S.set 5 1 (.slice q1 j1 J1) rfl
            replace N1 := N1.hold H
            replace N2 := N2.hold H
            replace N3 := N3.hold H
            replace r1 := r1.hold H
            replace r2 := r2.hold H
            replace HH := HH.trans H
            clear H
            refine hK.out _ _ ⟨S.c 0 0 rfl rfl, S.c 0 1 rfl rfl, S.c 1 0 rfl rfl, S.c 1 1 rfl rfl⟩ (fun hS => ?_)
            generalize ((w50.setCell ⟨w49.heap.size, 0, none⟩ (.bool c1)).setCell ⟨w49.heap.size, 1, none⟩ (.slice q1 j1 J1)) = w51 at S N1 N2 N3 r1 r2 HH hS ⊢
            clear hK K
            try simp only [Act.put, List.setIfInBounds_toArray, List.set_cons_zero, List.set_cons_succ]
            refine wpAnyH_ready (rs := [7]) (by kernel_rfl) (by simp) (AllReadyH.cons ((List.getElem?_toArray ..).trans rfl) (fun K hK => ?_) AllReadyH.nil)
            have c0 := S.c 4 0 rfl rfl
            have f0 := S.f 4 0 rfl
            have c1 := S.c 4 1 rfl rfl
            have f1 := S.f 4 1 rfl
            go_simp
            clear hS c0 f0 c1 f1
            have H := S.hset 4 0 (.bool c2) rfl rfl (by intro q n e; cases e)
            replace S := S.set 4 0 (.bool c2) rfl
            replace N1 := N1.hold H
            replace N2 := N2.hold H
            replace N3 := N3.hold H
            replace r1 := r1.hold H
            replace r2 := r2.hold H
            replace HH := HH.trans H
            clear H
            have H := S.hset 4 1 (.slice q2 j2 J2) rfl rfl (by intro q n e; cases e)
            replace S := S.set 4 1 (.slice q2 j2 J2) rfl
            replace N1 := N1.hold H
            replace N2 := N2.hold H
            replace N3 := N3.hold H
            replace r1 := r1.hold H
            replace r2 := r2.hold H
            replace HH := HH.trans H
            clear H
            refine hK.out _ _ ⟨S.c 0 0 rfl rfl, S.c 0 1 rfl rfl, S.c 1 0 rfl rfl, S.c 1 1 rfl rfl⟩ (fun hS => ?_)
            generalize ((w51.setCell ⟨w3.heap.size, 0, none⟩ (.bool c2)).setCell ⟨w3.heap.size, 1, none⟩ (.slice q2 j2 J2)) = w52 at S N1 N2 N3 r1 r2 HH hS ⊢
            clear hK K
            try simp only [Act.put, List.setIfInBounds_toArray, List.set_cons_zero, List.set_cons_succ]
            refine wpAnyH_done (by kernel_rfl) ?_ _
            go_wp2_with fail
            go_meet
            case rel => exact ⟨w49.heap.size, w3.heap.size, c1, q1, j1, J1, m1, c2, q2, j2, J2, m2, rfl, rfl, Sv.of S [0, 1, 2, 3, 5, 4] rfl, e1, r1, e2, r2, HH⟩
          ·
            go_simp
            clear hS
            have H := S.hnew 30 [.bool false, .slice none 0 0]
            replace S := S.alloc 30 [.bool false, .slice none 0 0] (w48.heap.size)
            replace N1 := N1.hold H
            replace N2 := N2.hold H
            replace N3 := N3.hold H
            replace r1 := r1.hold H
            replace HH := HH.trans H
            clear H
            refine hK.out _ _ ⟨S.c 0 0 rfl rfl, S.c 0 1 rfl rfl, S.c 1 0 rfl rfl, S.c 1 1 rfl rfl⟩ (fun hS => ?_)
            generalize (w48.alloc (.cells #[.bool false, .slice none 0 0] 30)) = w53 at S N1 N2 N3 r1 HH hS ⊢
            clear hK K
            try simp only [Act.put, List.setIfInBounds_toArray, List.set_cons_zero, List.set_cons_succ]
            refine wpAnyH_ready (rs := [3]) (by kernel_rfl) (by simp) (AllReadyH.cons ((List.getElem?_toArray ..).trans rfl) (fun K hK => ?_) AllReadyH.nil)
            go_simp
            clear hS
            refine (S.call (sigOf_any ⟨_, _, _, by rw [hz2.out], N2⟩ (nb_max M2.out (by decide)))).mono ?_
            clear S
            rintro e w54 ⟨⟨_, rfl, c2, q2, j2, J2, m2, rfl, e2, r2⟩, S, H⟩
            replace N1 := N1.hold H
            replace N2 := N2.hold H
            replace N3 := N3.hold H
            replace r1 := r1.hold H
            replace HH := HH.trans H
            clear H
            go_wp2_with fail
            refine hK.out _ _ ⟨S.c 0 0 rfl rfl, S.c 0 1 rfl rfl, S.c 1 0 rfl rfl, S.c 1 1 rfl rfl⟩ (fun hS => ?_)
            clear hK K
            try simp only [Act.put, List.setIfInBounds_toArray, List.set_cons_zero, List.set_cons_succ]
            refine wpAnyH_ready (rs := [6]) (by kernel_rfl) (by simp) (AllReadyH.cons ((List.getElem?_toArray ..).trans rfl) (fun K hK => ?_) AllReadyH.nil)
            have c0 := S.c 5 0 rfl rfl
            have f0 := S.f 5 0 rfl
            have c1 := S.c 5 1 rfl rfl
            have f1 := S.f 5 1 rfl
            go_simp
            clear hS c0 f0 c1 f1
            have H := S.hset 5 0 (.bool c1) rfl rfl (by intro q n e; cases e)
            replace S := S.set 5 0 (.bool c1) rfl
            replace N1 := N1.hold H
            replace N2 := N2.hold H
            replace N3 := N3.hold H
            replace r1 := r1.hold H
            replace r2 := r2.hold H
            replace HH := HH.trans H
            clear H
            have H := S.hset 5 1 (.slice q1 j1 J1) rfl rfl (by intro q n e; cases e)
            replace S := S.set 5 1 (.slice q1 j1 J1) rfl
            replace N1 := N1.hold H
            replace N2 := N2.hold H
            replace N3 := N3.hold H
            replace r1 := r1.hold H
            replace r2 := r2.hold H
            replace HH := HH.trans H
            clear H
            refine hK.out _ _ ⟨S.c 0 0 rfl rfl, S.c 0 1 rfl rfl, S.c 1 0 rfl rfl, S.c 1 1 rfl rfl⟩ (fun hS => ?_)
            generalize ((w54.setCell ⟨w48.heap.size, 0, none⟩ (.bool c1)).setCell ⟨w48.heap.size, 1, none⟩ (.slice q1 j1 J1)) = w55 at S N1 N2 N3 r1 r2 HH hS ⊢
            clear hK K
            try simp only [Act.put, List.setIfInBounds_toArray, List.set_cons_zero, List.set_cons_succ]
            refine wpAnyH_ready (rs := [7]) (by kernel_rfl) (by simp) (AllReadyH.cons ((List.getElem?_toArray ..).trans rfl) (fun K hK => ?_) AllReadyH.nil)
            have c0 := S.c 4 0 rfl rfl
            have f0 := S.f 4 0 rfl
            have c1 := S.c 4 1 rfl rfl
            have f1 := S.f 4 1 rfl
            go_simp
            clear hS c0 f0 c1 f1
            have H := S.hset 4 0 (.bool c2) rfl rfl (by intro q n e; cases e)
            replace S := S.set 4 0 (.bool c2) rfl
            replace N1 := N1.hold H
            replace N2 := N2.hold H
            replace N3 := N3.hold H
            replace r1 := r1.hold H
            replace r2 := r2.hold H
            replace HH := HH.trans H
            clear H
            have H := S.hset 4 1 (.slice q2 j2 J2) rfl rfl (by intro q n e; cases e)
            replace S := S.set 4 1 (.slice q2 j2 J2) rfl
            replace N1 := N1.hold H
            replace N2 := N2.hold H
            replace N3 := N3.hold H
            replace r1 := r1.hold H
            replace r2 := r2.hold H
            replace HH := HH.trans H
            clear H
            refine hK.out _ _ ⟨S.c 0 0 rfl rfl, S.c 0 1 rfl rfl, S.c 1 0 rfl rfl, S.c 1 1 rfl rfl⟩ (fun hS => ?_)
            generalize ((w55.setCell ⟨w3.heap.size, 0, none⟩ (.bool c2)).setCell ⟨w3.heap.size, 1, none⟩ (.slice q2 j2 J2)) = w56 at S N1 N2 N3 r1 r2 HH hS ⊢
            clear hK K
            try simp only [Act.put, List.setIfInBounds_toArray, List.set_cons_zero, List.set_cons_succ]
            refine wpAnyH_done (by kernel_rfl) ?_ _
            go_wp2_with fail
            go_meet
            case rel => exact ⟨w48.heap.size, w3.heap.size, c1, q1, j1, J1, m1, c2, q2, j2, J2, m2, rfl, rfl, Sv.of S [0, 1, 2, 3, 5, 4] rfl, e1, r1, e2, r2, HH⟩
        ·
          go_simp
          clear hS
          have H := S.hnew 30 [.bool false, .slice none 0 0]
          replace S := S.alloc 30 [.bool false, .slice none 0 0] (w47.heap.size)
          replace N1 := N1.hold H
          replace N2 := N2.hold H
          replace N3 := N3.hold H
          replace HH := HH.trans H
          clear H
          refine hK.out _ _ ⟨S.c 0 0 rfl rfl, S.c 0 1 rfl rfl, S.c 1 0 rfl rfl, S.c 1 1 rfl rfl⟩ (fun hS => ?_)
          generalize (w47.alloc (.cells #[.bool false, .slice none 0 0] 30)) = w57 at S N1 N2 N3 HH hS ⊢
          clear hK K
          try simp only [Act.put, List.setIfInBounds_toArray, List.set_cons_zero, List.set_cons_succ]
          refine wpAnyH_ready (rs := [1]) (by kernel_rfl) (by simp) (AllReadyH.cons ((List.getElem?_toArray ..).trans rfl) (fun K hK => ?_) AllReadyH.nil)
          go_simp
          clear hS
          refine (S.call (sigOf_any ⟨_, _, _, by rw [hz1.out], N1⟩ (nb_max M1.out (by decide)))).mono ?_
          clear S
          rintro e w58 ⟨⟨_, rfl, c1, q1, j1, J1, m1, rfl, e1, r1⟩, S, H⟩
          replace N1 := N1.hold H
          replace N2 := N2.hold H
          replace N3 := N3.hold H
          replace HH := HH.trans H
          clear H
          go_wp2_with fail
          refine hK.out _ _ ⟨S.c 0 0 rfl rfl, S.c 0 1 rfl rfl, S.c 1 0 rfl rfl, S.c 1 1 rfl rfl⟩ (fun hS => ?_)
          clear hK K
          try simp only [Act.put, List.setIfInBounds_toArray, List.set_cons_zero, List.set_cons_succ]
          refine wpAnyH_ready (rs := [3]) (by kernel_rfl) (by simp) (AllReadyH.cons ((List.getElem?_toArray ..).trans rfl) (fun K hK => ?_) AllReadyH.nil)
          go_simp
          clear hS
          refine (S.call (sigOf_any ⟨_, _, _, by rw [hz2.out], N2⟩ (nb_max M2.out (by decide)))).mono ?_
          clear S
          rintro e w59 ⟨⟨_, rfl, c2, q2, j2, J2, m2, rfl, e2, r2⟩, S, H⟩
          replace N1 := N1.hold H
          replace N2 := N2.hold H
          replace N3 := N3.hold H
          replace r1 := r1.hold H
          replace HH := HH.trans H
          clear H
          go_wp2_with fail
          refine hK.out _ _ ⟨S.c 0 0 rfl rfl, S.c 0 1 rfl rfl, S.c 1 0 rfl rfl, S.c 1 1 rfl rfl⟩ (fun hS => ?_)
          clear hK K
          try simp only [Act.put, List.setIfInBounds_toArray, List.set_cons_zero, List.set_cons_succ]
          refine wpAnyH_ready (rs := [6]) (by kernel_rfl) (by simp) (AllReadyH.cons ((List.getElem?_toArray ..).trans rfl) (fun K hK => ?_) AllReadyH.nil)
          have c0 := S.c 5 0 rfl rfl
          have f0 := S.f 5 0 rfl
          have c1 := S.c 5 1 rfl rfl
          have f1 := S.f 5 1 rfl
          go_simp
          clear hS c0 f0 c1 f1
          have H := S.hset 5 0 (.bool c1) rfl rfl (by intro q n e; cases e)
          replace S := S.set 5 0 (.bool c1) rfl
          replace N1 := N1.hold H
          replace N2 := N2.hold H
          replace N3 := N3.hold H
          replace r1 := r1.hold H
          replace r2 := r2.hold H
          replace HH := HH.trans H
          clear H
          have H := S.hset 5 1 (.slice q1 j1 J1) rfl rfl (by intro q n e; cases e)
          replace S := S.set 5 1 (.slice q1 j1 J1) rfl
          replace N1 := N1.hold H
          replace N2 := N2.hold H
          replace N3 := N3.hold H
          replace r1 := r1.hold H
          replace r2 := r2.hold H
          replace HH := HH.trans H
          clear H
          refine hK.out _ _ ⟨S.c 0 0 rfl rfl, S.c 0 1 rfl rfl, S.c 1 0 rfl rfl, S.c 1 1 rfl rfl⟩ (fun hS => ?_)
          generalize ((w59.setCell ⟨w47.heap.size, 0, none⟩ (.bool c1)).setCell ⟨w47.heap.size, 1, none⟩ (.slice q1 j1 J1)) = w60 at S N1 N2 N3 r1 r2 HH hS ⊢
          clear hK K
          try simp only [Act.put, List.setIfInBounds_toArray, List.set_cons_zero, List.set_cons_succ]
          refine wpAnyH_ready (rs := [7]) (by kernel_rfl) (by simp) (AllReadyH.cons ((List.getElem?_toArray ..).trans rfl) (fun K hK => ?_) AllReadyH.nil)
          have c0 := S.c 4 0 rfl rfl
          have f0 := S.f 4 0 rfl
          have c1 := S.c 4 1 rfl rfl
          have f1 := S.f 4 1 rfl
          go_simp
          clear hS c0 f0 c1 f1
          have H := S.hset 4 0 (.bool c2) rfl rfl (by intro q n e; cases e)
          replace S := S.set 4 0 (.bool c2) rfl
          replace N1 := N1.hold H
          replace N2 := N2.hold H
          replace N3 := N3.hold H
          replace r1 := r1.hold H
          replace r2 := r2.hold H
          replace HH := HH.trans H
          clear H
          have H := S.hset 4 1 (.slice q2 j2 J2) rfl rfl (by intro q n e; cases e)
          replace S := S.set 4 1 (.slice q2 j2 J2) rfl
          replace N1 := N1.hold H
          replace N2 := N2.hold H
          replace N3 := N3.hold H
          replace r1 := r1.hold H
          replace r2 := r2.hold H
          replace HH := HH.trans H
          clear H
          refine hK.out _ _ ⟨S.c 0 0 rfl rfl, S.c 0 1 rfl rfl, S.c 1 0 rfl rfl, S.c 1 1 rfl rfl⟩ (fun hS => ?_)
          generalize ((w60.setCell ⟨w3.heap.size, 0, none⟩ (.bool c2)).setCell ⟨w3.heap.size, 1, none⟩ (.slice q2 j2 J2)) = w61 at S N1 N2 N3 r1 r2 HH hS ⊢
          clear hK K
          try simp only [Act.put, List.setIfInBounds_toArray, List.set_cons_zero, List.set_cons_succ]
          refine wpAnyH_done (by kernel_rfl) ?_ _
          go_wp2_with fail
          go_meet
          case rel => exact ⟨w47.heap.size, w3.heap.size, c1, q1, j1, J1, m1, c2, q2, j2, J2, m2, rfl, rfl, Sv.of S [0, 1, 2, 3, 5, 4] rfl, e1, r1, e2, r2, HH⟩
    case rest =>
      obtain ⟨g7, g8, c1, q1, j1, J1, m1, c2, q2, j2, J2, m2, rfl, rfl, S, e1, r1, e2, r2, HH⟩ := hcut
      obtain ⟨w62, rfl⟩ : ∃ W : World, W = wc := ⟨_, rfl⟩
      replace N1 := N1.hold HH
      replace N2 := N2.hold HH
      replace N3 := N3.hold HH
      clear HH
      have c0_0 := S.c 0 0 rfl rfl
      have c0_1 := S.c 0 1 rfl rfl
      have c1_0 := S.c 1 0 rfl rfl
      have c1_1 := S.c 1 1 rfl rfl
      have c2_0 := S.c 2 0 rfl rfl
      have c2_1 := S.c 2 1 rfl rfl
      have c4_0 := S.c 4 0 rfl rfl
      have c4_1 := S.c 4 1 rfl rfl
      have c5_0 := S.c 5 0 rfl rfl
      have c5_1 := S.c 5 1 rfl rfl
      go_wp2_with fail
      clear c0_0 c0_1 c1_0 c1_1 c2_0 c2_1 c4_0 c4_1 c5_0 c5_1
      refine (S.call (wadd_to ⟨_, _, _, by rw [hz1.out], N1⟩ ⟨_, _, _, by rw [hz2.out], N2⟩ (nb_max M1.out (by decide)) (nb_max M2.out (by decide)) zs HZ.out.1 (nb_max BS.out (by decide)))).mono ?_
      clear S
      rintro e w63 ⟨⟨_, rfl, ps, ls, Ks, rfl, ns⟩, S, H⟩
      replace N1 := N1.hold H
      replace N2 := N2.hold H
      replace N3 := N3.hold H
      replace r1 := r1.hold H
      replace r2 := r2.hold H
      clear H
      have c0_0 := S.c 0 0 rfl rfl
      have c0_1 := S.c 0 1 rfl rfl
      have c1_0 := S.c 1 0 rfl rfl
      have c1_1 := S.c 1 1 rfl rfl
      have c2_0 := S.c 2 0 rfl rfl
      have c2_1 := S.c 2 1 rfl rfl
      have c4_0 := S.c 4 0 rfl rfl
      have c4_1 := S.c 4 1 rfl rfl
      have c5_0 := S.c 5 0 rfl rfl
      have c5_1 := S.c 5 1 rfl rfl
      have H := S.hnew 25 [.bool (negB zs), .slice ps ls Ks]
      replace S := S.alloc 25 [.bool (negB zs), .slice ps ls Ks] (w63.heap.size)
      replace N1 := N1.hold H
      replace N2 := N2.hold H
      replace N3 := N3.hold H
      replace r1 := r1.hold H
      replace r2 := r2.hold H
      replace ns := ns.hold H
      clear H
      clear c0_0 c0_1 c1_0 c1_1 c2_0 c2_1 c4_0 c4_1 c5_0 c5_1
      have c0_0 := S.c 0 0 rfl rfl
      have c0_1 := S.c 0 1 rfl rfl
      have c1_0 := S.c 1 0 rfl rfl
      have c1_1 := S.c 1 1 rfl rfl
      have c2_0 := S.c 2 0 rfl rfl
      have c2_1 := S.c 2 1 rfl rfl
      have c4_0 := S.c 4 0 rfl rfl
      have c4_1 := S.c 4 1 rfl rfl
      have c5_0 := S.c 5 0 rfl rfl
      have c5_1 := S.c 5 1 rfl rfl
      have c6_0 := S.c 6 0 rfl rfl
      have c6_1 := S.c 6 1 rfl rfl
      go_wp2_with fail
      clear c0_0 c0_1 c1_0 c1_1 c2_0 c2_1 c4_0 c4_1 c5_0 c5_1 c6_0 c6_1
      refine (S.call (wsub_to ⟨_, _, _, by rw [hz1.out], N1⟩ ⟨_, _, _, by rw [hz2.out], N2⟩ (nb_max M1.out (by decide)) (nb_max M2.out (by decide)) zd HZ.out.2.1 (nb_max BD.out (by decide)))).mono ?_
      clear S
      rintro e w64 ⟨⟨_, rfl, pd, ld, Kd, rfl, nd⟩, S, H⟩
      replace N1 := N1.hold H
      replace N2 := N2.hold H
      replace N3 := N3.hold H
      replace r1 := r1.hold H
      replace r2 := r2.hold H
      replace ns := ns.hold H
      clear H
      have c0_0 := S.c 0 0 rfl rfl
      have c0_1 := S.c 0 1 rfl rfl
      have c1_0 := S.c 1 0 rfl rfl
      have c1_1 := S.c 1 1 rfl rfl
      have c2_0 := S.c 2 0 rfl rfl
      have c2_1 := S.c 2 1 rfl rfl
      have c4_0 := S.c 4 0 rfl rfl
      have c4_1 := S.c 4 1 rfl rfl
      have c5_0 := S.c 5 0 rfl rfl
      have c5_1 := S.c 5 1 rfl rfl
      have c6_0 := S.c 6 0 rfl rfl
      have c6_1 := S.c 6 1 rfl rfl
      have H := S.hnew 25 [.bool (negB zd), .slice pd ld Kd]
      replace S := S.alloc 25 [.bool (negB zd), .slice pd ld Kd] (w64.heap.size)
      replace N1 := N1.hold H
      replace N2 := N2.hold H
      replace N3 := N3.hold H
      replace r1 := r1.hold H
      replace r2 := r2.hold H
      replace ns := ns.hold H
      replace nd := nd.hold H
      clear H
      clear c0_0 c0_1 c1_0 c1_1 c2_0 c2_1 c4_0 c4_1 c5_0 c5_1 c6_0 c6_1
      have c0_0 := S.c 0 0 rfl rfl
      have c0_1 := S.c 0 1 rfl rfl
      have c1_0 := S.c 1 0 rfl rfl
      have c1_1 := S.c 1 1 rfl rfl
      have c2_0 := S.c 2 0 rfl rfl
      have c2_1 := S.c 2 1 rfl rfl
      have c4_0 := S.c 4 0 rfl rfl
      have c4_1 := S.c 4 1 rfl rfl
      have c5_0 := S.c 5 0 rfl rfl
      have c5_1 := S.c 5 1 rfl rfl
      have c6_0 := S.c 6 0 rfl rfl
      have c6_1 := S.c 6 1 rfl rfl
      have c7_0 := S.c 7 0 rfl rfl
      have c7_1 := S.c 7 1 rfl rfl
      have H := S.hnew 25 [.bool b1, .slice p1 l1 K1, .bool b2, .slice p2 l2 K2, .bool b3, .slice p3 l3 K3]
      replace S := S.alloc 25 [.bool b1, .slice p1 l1 K1, .bool b2, .slice p2 l2 K2, .bool b3, .slice p3 l3 K3] (w64.heap.size + 1)
      replace N1 := N1.hold H
      replace N2 := N2.hold H
      replace N3 := N3.hold H
      replace r1 := r1.hold H
      replace r2 := r2.hold H
      replace ns := ns.hold H
      replace nd := nd.hold H
      clear H
      go_wp2_with fail
      clear c0_0 c0_1 c1_0 c1_1 c2_0 c2_1 c4_0 c4_1 c5_0 c5_1 c6_0 c6_1 c7_0 c7_1
      refine (S.call (wsum3 (ints3v S 8 rfl hz1.out hz2.out hz3.out N1 N2 N3) (nb_max M1.out (by decide)) (nb_max M2.out (by decide)) (nb_max M3.out (by decide)) (by rw [HZ.out.1]; exact nb_max BS.out (by decide)) zt HZ.out.2.2.2.2.1 (nb_max BT.out (by decide)))).mono ?_
      clear S
      rintro e w65 ⟨⟨_, rfl, pt, lt, Kt, rfl, nt⟩, S, H⟩
      replace N1 := N1.hold H
      replace N2 := N2.hold H
      replace N3 := N3.hold H
      replace r1 := r1.hold H
      replace r2 := r2.hold H
      replace ns := ns.hold H
      replace nd := nd.hold H
      clear H
      have c0_0 := S.c 0 0 rfl rfl
      have c0_1 := S.c 0 1 rfl rfl
      have c1_0 := S.c 1 0 rfl rfl
      have c1_1 := S.c 1 1 rfl rfl
      have c2_0 := S.c 2 0 rfl rfl
      have c2_1 := S.c 2 1 rfl rfl
      have c4_0 := S.c 4 0 rfl rfl
      have c4_1 := S.c 4 1 rfl rfl
      have c5_0 := S.c 5 0 rfl rfl
      have c5_1 := S.c 5 1 rfl rfl
      have c6_0 := S.c 6 0 rfl rfl
      have c6_1 := S.c 6 1 rfl rfl
      have c7_0 := S.c 7 0 rfl rfl
      have c7_1 := S.c 7 1 rfl rfl
      have H := S.hnew 25 [.bool (negB zt), .slice pt lt Kt]
      replace S := S.alloc 25 [.bool (negB zt), .slice pt lt Kt] (w65.heap.size)
      replace N1 := N1.hold H
      replace N2 := N2.hold H
      replace N3 := N3.hold H
      replace r1 := r1.hold H
      replace r2 := r2.hold H
      replace ns := ns.hold H
      replace nd := nd.hold H
      replace nt := nt.hold H
      clear H
      clear c0_0 c0_1 c1_0 c1_1 c2_0 c2_1 c4_0 c4_1 c5_0 c5_1 c6_0 c6_1 c7_0 c7_1
      have c0_0 := S.c 0 0 rfl rfl
      have c0_1 := S.c 0 1 rfl rfl
      have c1_0 := S.c 1 0 rfl rfl
      have c1_1 := S.c 1 1 rfl rfl
      have c2_0 := S.c 2 0 rfl rfl
      have c2_1 := S.c 2 1 rfl rfl
      have c4_0 := S.c 4 0 rfl rfl
      have c4_1 := S.c 4 1 rfl rfl
      have c5_0 := S.c 5 0 rfl rfl
      have c5_1 := S.c 5 1 rfl rfl
      have c6_0 := S.c 6 0 rfl rfl
      have c6_1 := S.c 6 1 rfl rfl
      have c7_0 := S.c 7 0 rfl rfl
      have c7_1 := S.c 7 1 rfl rfl
      have c9_0 := S.c 9 0 rfl rfl
      have c9_1 := S.c 9 1 rfl rfl
      have H := S.hnew 25 [.bool b3, .slice p3 l3 K3, .bool b2, .slice p2 l2 K2, .bool b1, .slice p1 l1 K1]
      replace S := S.alloc 25 [.bool b3, .slice p3 l3 K3, .bool b2, .slice p2 l2 K2, .bool b1, .slice p1 l1 K1] (w65.heap.size + 1)
      replace N1 := N1.hold H
      replace N2 := N2.hold H
      replace N3 := N3.hold H
      replace r1 := r1.hold H
      replace r2 := r2.hold H
      replace ns := ns.hold H
      replace nd := nd.hold H
      replace nt := nt.hold H
      clear H
      go_wp2_with fail
      clear c0_0 c0_1 c1_0 c1_1 c2_0 c2_1 c4_0 c4_1 c5_0 c5_1 c6_0 c6_1 c7_0 c7_1 c9_0 c9_1
      refine (S.call (wsum3 (ints3v S 10 rfl hz3.out hz2.out hz1.out N3 N2 N1) (nb_max M3.out (by decide)) (nb_max M2.out (by decide)) (nb_max M1.out (by decide)) (nb_max BU.out (by decide)) zt HZ.out.2.2.2.2.2 (nb_max BT.out (by decide)))).mono ?_
      clear S
      rintro e w66 ⟨⟨_, rfl, pu, lu, Ku, rfl, nu⟩, S, H⟩
      replace N1 := N1.hold H
      replace N2 := N2.hold H
      replace N3 := N3.hold H
      replace r1 := r1.hold H
      replace r2 := r2.hold H
      replace ns := ns.hold H
      replace nd := nd.hold H
      replace nt := nt.hold H
      clear H
      have c0_0 := S.c 0 0 rfl rfl
      have c0_1 := S.c 0 1 rfl rfl
      have c1_0 := S.c 1 0 rfl rfl
      have c1_1 := S.c 1 1 rfl rfl
      have c2_0 := S.c 2 0 rfl rfl
      have c2_1 := S.c 2 1 rfl rfl
      have c4_0 := S.c 4 0 rfl rfl
      have c4_1 := S.c 4 1 rfl rfl
      have c5_0 := S.c 5 0 rfl rfl
      have c5_1 := S.c 5 1 rfl rfl
      have c6_0 := S.c 6 0 rfl rfl
      have c6_1 := S.c 6 1 rfl rfl
      have c7_0 := S.c 7 0 rfl rfl
      have c7_1 := S.c 7 1 rfl rfl
      have c9_0 := S.c 9 0 rfl rfl
      have c9_1 := S.c 9 1 rfl rfl
      have H := S.hnew 25 [.bool (negB zt), .slice pu lu Ku]
      replace S := S.alloc 25 [.bool (negB zt), .slice pu lu Ku] (w66.heap.size)
      replace N1 := N1.hold H
      replace N2 := N2.hold H
      replace N3 := N3.hold H
      replace r1 := r1.hold H
      replace r2 := r2.hold H
      replace ns := ns.hold H
      replace nd := nd.hold H
      replace nt := nt.hold H
      replace nu := nu.hold H
      clear H
      clear c0_0 c0_1 c1_0 c1_1 c2_0 c2_1 c4_0 c4_1 c5_0 c5_1 c6_0 c6_1 c7_0 c7_1 c9_0 c9_1
      have c0_0 := S.c 0 0 rfl rfl
      have c0_1 := S.c 0 1 rfl rfl
      have c1_0 := S.c 1 0 rfl rfl
      have c1_1 := S.c 1 1 rfl rfl
      have c2_0 := S.c 2 0 rfl rfl
      have c2_1 := S.c 2 1 rfl rfl
      have c4_0 := S.c 4 0 rfl rfl
      have c4_1 := S.c 4 1 rfl rfl
      have c5_0 := S.c 5 0 rfl rfl
      have c5_1 := S.c 5 1 rfl rfl
      have c6_0 := S.c 6 0 rfl rfl
      have c6_1 := S.c 6 1 rfl rfl
      have c7_0 := S.c 7 0 rfl rfl
      have c7_1 := S.c 7 1 rfl rfl
      have c9_0 := S.c 9 0 rfl rfl
      have c9_1 := S.c 9 1 rfl rfl
      have c11_0 := S.c 11 0 rfl rfl
      have c11_1 := S.c 11 1 rfl rfl
      go_upto_region 10 with fail
      clear c0_0 c0_1 c1_0 c1_1 c2_0 c2_1 c4_0 c4_1 c5_0 c5_1 c6_0 c6_1 c7_0 c7_1 c9_0 c9_1 c11_0 c11_1
      replace N1 := N1.hold (Hold.drew _)
      replace N2 := N2.hold (Hold.drew _)
      replace N3 := N3.hold (Hold.drew _)
      replace r1 := r1.hold (Hold.drew _)
      replace r2 := r2.hold (Hold.drew _)
      replace ns := ns.hold (Hold.drew _)
      replace nd := nd.hold (Hold.drew _)
      replace nt := nt.hold (Hold.drew _)
      replace nu := nu.hold (Hold.drew _)
      replace S := S.drew
      refine wp_region_held_drew (S := fun W => W.cell? ⟨w63.heap.size, 0, none⟩ = some (.bool (negB zs)) ∧ W.cell? ⟨w63.heap.size, 1, none⟩ = some (.slice ps ls Ks) ∧ W.cell? ⟨g7, 0, none⟩ = some (.bool c1) ∧ W.cell? ⟨g7, 1, none⟩ = some (.slice q1 j1 J1) ∧ W.cell? ⟨g8, 0, none⟩ = some (.bool c2) ∧ W.cell? ⟨g8, 1, none⟩ = some (.slice q2 j2 J2) ∧ W.cell? ⟨w64.heap.size, 0, none⟩ = some (.bool (negB zd)) ∧ W.cell? ⟨w64.heap.size, 1, none⟩ = some (.slice pd ld Kd) ∧ W.cell? ⟨w65.heap.size, 0, none⟩ = some (.bool (negB zt)) ∧ W.cell? ⟨w65.heap.size, 1, none⟩ = some (.slice pt lt Kt) ∧ W.cell? ⟨w.heap.size + 1 + 1, 0, none⟩ = some (.bool b3) ∧ W.cell? ⟨w.heap.size + 1 + 1, 1, none⟩ = some (.slice p3 l3 K3) ∧ W.cell? ⟨w66.heap.size, 0, none⟩ = some (.bool (negB zt)) ∧ W.cell? ⟨w66.heap.size, 1, none⟩ = some (.slice pu lu Ku)) (by kernel_rfl) ⟨S.c 6 0 rfl rfl, S.c 6 1 rfl rfl, S.c 4 0 rfl rfl, S.c 4 1 rfl rfl, S.c 5 0 rfl rfl, S.c 5 1 rfl rfl, S.c 7 0 rfl rfl, S.c 7 1 rfl rfl, S.c 9 0 rfl rfl, S.c 9 1 rfl rfl, S.c 2 0 rfl rfl, S.c 2 1 rfl rfl, S.c 11 0 rfl rfl, S.c 11 1 rfl rfl⟩ (fun hS => ?_)
      refine wpAnyH_take (i := 0) (v := ?_) ((List.getElem?_toArray ..).trans rfl) (by kernel_rfl) (by kernel_rfl) (by kernel_rfl) (fun _ _ _ h => h) (Or.inl ⟨rfl, fun W hW => ?_⟩) hS ?_
      rotate_left
      · obtain ⟨hW0, hW1, hW2, hW3, hW4, hW5, hW6, hW7, hW8, hW9, hW10, hW11, hW12, hW13⟩ := hW; go_simp; try first | rfl | kernel_rfl
      try simp only [Act.put, List.setIfInBounds_toArray, List.set_cons_zero, List.set_cons_succ]
      refine wpAnyH_take (i := 1) (v := ?_) ((List.getElem?_toArray ..).trans rfl) (by kernel_rfl) (by kernel_rfl) (by kernel_rfl) (fun _ _ _ h => h) (Or.inl ⟨rfl, fun W hW => ?_⟩) hS ?_
      rotate_left
      · obtain ⟨hW0, hW1, hW2, hW3, hW4, hW5, hW6, hW7, hW8, hW9, hW10, hW11, hW12, hW13⟩ := hW; go_simp; try first | rfl | kernel_rfl
      try simp only [Act.put, List.setIfInBounds_toArray, List.set_cons_zero, List.set_cons_succ]
      refine wpAnyH_take (i := 2) (v := ?_) ((List.getElem?_toArray ..).trans rfl) (by kernel_rfl) (by kernel_rfl) (by kernel_rfl) (fun _ _ _ h => h) (Or.inl ⟨rfl, fun W hW => ?_⟩) hS ?_
      rotate_left
      · obtain ⟨hW0, hW1, hW2, hW3, hW4, hW5, hW6, hW7, hW8, hW9, hW10, hW11, hW12, hW13⟩ := hW; go_simp; try first | rfl | kernel_rfl
      try simp only [Act.put, List.setIfInBounds_toArray, List.set_cons_zero, List.set_cons_succ]
      refine wpAnyH_take (i := 3) (v := ?_) ((List.getElem?_toArray ..).trans rfl) (by kernel_rfl) (by kernel_rfl) (by kernel_rfl) (fun _ _ _ h => h) (Or.inl ⟨rfl, fun W hW => ?_⟩) hS ?_
      rotate_left
      · obtain ⟨hW0, hW1, hW2, hW3, hW4, hW5, hW6, hW7, hW8, hW9, hW10, hW11, hW12, hW13⟩ := hW; go_simp; try first | rfl | kernel_rfl
      try simp only [Act.put, List.setIfInBounds_toArray, List.set_cons_zero, List.set_cons_succ]
      refine wpAnyH_take (i := 4) (v := ?_) ((List.getElem?_toArray ..).trans rfl) (by kernel_rfl) (by kernel_rfl) (by kernel_rfl) (fun _ _ _ h => h) (Or.inl ⟨rfl, fun W hW => ?_⟩) hS ?_
      rotate_left
      · obtain ⟨hW0, hW1, hW2, hW3, hW4, hW5, hW6, hW7, hW8, hW9, hW10, hW11, hW12, hW13⟩ := hW; go_simp; try first | rfl | kernel_rfl
      try simp only [Act.put, List.setIfInBounds_toArray, List.set_cons_zero, List.set_cons_succ]
      refine wpAnyH_take (i := 5) (v := ?_) ((List.getElem?_toArray ..).trans rfl) (by kernel_rfl) (by kernel_rfl) (by kernel_rfl) (fun _ _ _ h => h) (Or.inl ⟨rfl, fun W hW => ?_⟩) hS ?_
      rotate_left
      · obtain ⟨hW0, hW1, hW2, hW3, hW4, hW5, hW6, hW7, hW8, hW9, hW10, hW11, hW12, hW13⟩ := hW; go_simp; try first | rfl | kernel_rfl
      try simp only [Act.put, List.setIfInBounds_toArray, List.set_cons_zero, List.set_cons_succ]
      refine wpAnyH_take (i := 6) (v := ?_) ((List.getElem?_toArray ..).trans rfl) (by kernel_rfl) (by kernel_rfl) (by kernel_rfl) (fun _ _ _ h => h) (Or.inl ⟨rfl, fun W hW => ?_⟩) hS ?_
      rotate_left
      · obtain ⟨hW0, hW1, hW2, hW3, hW4, hW5, hW6, hW7, hW8, hW9, hW10, hW11, hW12, hW13⟩ := hW; go_simp; try first | rfl | kernel_rfl
      try simp only [Act.put, List.setIfInBounds_toArray, List.set_cons_zero, List.set_cons_succ]
      refine wpAnyH_take (i := 7) (v := ?_) ((List.getElem?_toArray ..).trans rfl) (by kernel_rfl) (by kernel_rfl) (by kernel_rfl) (fun _ _ _ h => h) (Or.inl ⟨rfl, fun W hW => ?_⟩) hS ?_
      rotate_left
      · obtain ⟨hW0, hW1, hW2, hW3, hW4, hW5, hW6, hW7, hW8, hW9, hW10, hW11, hW12, hW13⟩ := hW; go_simp; try first | rfl | kernel_rfl
      try simp only [Act.put, List.setIfInBounds_toArray, List.set_cons_zero, List.set_cons_succ]
      refine wpAnyH_take (i := 8) (v := ?_) ((List.getElem?_toArray ..).trans rfl) (by kernel_rfl) (by kernel_rfl) (by kernel_rfl) (fun _ _ _ h => h) (Or.inl ⟨rfl, fun W hW => ?_⟩) hS ?_
      rotate_left
      · obtain ⟨hW0, hW1, hW2, hW3, hW4, hW5, hW6, hW7, hW8, hW9, hW10, hW11, hW12, hW13⟩ := hW; go_simp; try first | rfl | kernel_rfl
      try simp only [Act.put, List.setIfInBounds_toArray, List.set_cons_zero, List.set_cons_succ]
      refine wpAnyH_take (i := 9) (v := ?_) ((List.getElem?_toArray ..).trans rfl) (by kernel_rfl) (by kernel_rfl) (by kernel_rfl) (fun _ _ _ h => h) (Or.inl ⟨rfl, fun W hW => ?_⟩) hS ?_
      rotate_left
      · obtain ⟨hW0, hW1, hW2, hW3, hW4, hW5, hW6, hW7, hW8, hW9, hW10, hW11, hW12, hW13⟩ := hW; go_simp; try first | rfl | kernel_rfl
      try simp only [Act.put, List.setIfInBounds_toArray, List.set_cons_zero, List.set_cons_succ]
      refine wpAnyH_take (i := 10) (v := ?_) ((List.getElem?_toArray ..).trans rfl) (by kernel_rfl) (by kernel_rfl) (by kernel_rfl) (fun _ _ _ h => h) (Or.inl ⟨rfl, fun W hW => ?_⟩) hS ?_
      rotate_left
      · obtain ⟨hW0, hW1, hW2, hW3, hW4, hW5, hW6, hW7, hW8, hW9, hW10, hW11, hW12, hW13⟩ := hW; go_simp; try first | rfl | kernel_rfl
      try simp only [Act.put, List.setIfInBounds_toArray, List.set_cons_zero, List.set_cons_succ]
      refine wpAnyH_take (i := 11) (v := ?_) ((List.getElem?_toArray ..).trans rfl) (by kernel_rfl) (by kernel_rfl) (by kernel_rfl) (fun _ _ _ h => h) (Or.inl ⟨rfl, fun W hW => ?_⟩) hS ?_
      rotate_left
      · obtain ⟨hW0, hW1, hW2, hW3, hW4, hW5, hW6, hW7, hW8, hW9, hW10, hW11, hW12, hW13⟩ := hW; go_simp; try first | rfl | kernel_rfl
      try simp only [Act.put, List.setIfInBounds_toArray, List.set_cons_zero, List.set_cons_succ]
      refine wpAnyH_take (i := 12) (v := ?_) ((List.getElem?_toArray ..).trans rfl) (by kernel_rfl) (by kernel_rfl) (by kernel_rfl) (fun _ _ _ h => h) (Or.inl ⟨rfl, fun W hW => ?_⟩) hS ?_
      rotate_left
      · obtain ⟨hW0, hW1, hW2, hW3, hW4, hW5, hW6, hW7, hW8, hW9, hW10, hW11, hW12, hW13⟩ := hW; go_simp; try first | rfl | kernel_rfl
      try simp only [Act.put, List.setIfInBounds_toArray, List.set_cons_zero, List.set_cons_succ]
      refine wpAnyH_take (i := 13) (v := ?_) ((List.getElem?_toArray ..).trans rfl) (by kernel_rfl) (by kernel_rfl) (by kernel_rfl) (fun _ _ _ h => h) (Or.inl ⟨rfl, fun W hW => ?_⟩) hS ?_
      rotate_left
      · obtain ⟨hW0, hW1, hW2, hW3, hW4, hW5, hW6, hW7, hW8, hW9, hW10, hW11, hW12, hW13⟩ := hW; go_simp; try first | rfl | kernel_rfl
      try simp only [Act.put, List.setIfInBounds_toArray, List.set_cons_zero, List.set_cons_succ]
      refine wpAnyH_take (i := 14) (v := ?_) ((List.getElem?_toArray ..).trans rfl) (by kernel_rfl) (by kernel_rfl) (by kernel_rfl) (fun _ _ _ h => h) (Or.inl ⟨rfl, fun W hW => ?_⟩) hS ?_
      rotate_left
      · obtain ⟨hW0, hW1, hW2, hW3, hW4, hW5, hW6, hW7, hW8, hW9, hW10, hW11, hW12, hW13⟩ := hW; go_simp; try first | rfl | kernel_rfl
      try simp only [Act.put, List.setIfInBounds_toArray, List.set_cons_zero, List.set_cons_succ]
      refine wpAnyH_take (i := 15) (v := ?_) ((List.getElem?_toArray ..).trans rfl) (by kernel_rfl) (by kernel_rfl) (by kernel_rfl) (fun _ _ _ h => h) (Or.inl ⟨rfl, fun W hW => ?_⟩) hS ?_
      rotate_left
      · obtain ⟨hW0, hW1, hW2, hW3, hW4, hW5, hW6, hW7, hW8, hW9, hW10, hW11, hW12, hW13⟩ := hW; go_simp; try first | rfl | kernel_rfl
      try simp only [Act.put, List.setIfInBounds_toArray, List.set_cons_zero, List.set_cons_succ]
      refine wpAnyH_take (i := 16) (v := ?_) ((List.getElem?_toArray ..).trans rfl) (by kernel_rfl) (by kernel_rfl) (by kernel_rfl) (fun _ _ _ h => h) (Or.inl ⟨rfl, fun W hW => ?_⟩) hS ?_
      rotate_left
      · obtain ⟨hW0, hW1, hW2, hW3, hW4, hW5, hW6, hW7, hW8, hW9, hW10, hW11, hW12, hW13⟩ := hW; go_simp; try first | rfl | kernel_rfl
      try simp only [Act.put, List.setIfInBounds_toArray, List.set_cons_zero, List.set_cons_succ]
      refine wpAnyH_take (i := 17) (v := ?_) ((List.getElem?_toArray ..).trans rfl) (by kernel_rfl) (by kernel_rfl) (by kernel_rfl) (fun _ _ _ h => h) (Or.inl ⟨rfl, fun W hW => ?_⟩) hS ?_
      rotate_left
      · obtain ⟨hW0, hW1, hW2, hW3, hW4, hW5, hW6, hW7, hW8, hW9, hW10, hW11, hW12, hW13⟩ := hW; go_simp; try first | rfl | kernel_rfl
      try simp only [Act.put, List.setIfInBounds_toArray, List.set_cons_zero, List.set_cons_succ]
      refine wpAnyH_ready (rs := [18]) (by kernel_rfl) (by simp) (AllReadyH.cons ((List.getElem?_toArray ..).trans rfl) (fun K hK => ?_) AllReadyH.nil)
      go_simp
      refine (S.call (sigAdd_to ⟨c1, q1, j1, J1, m1, rfl, e1, r1⟩ ⟨c2, q2, j2, J2, m2, rfl, e2, r2⟩ (nb_max M1.out (by decide)) (nb_max M2.out (by decide)) zs HZ.out.1)).mono ?_; clear S; rintro e w67 ⟨⟨_, rfl, c3, q3, j3, J3, m3, rfl, e3, r3⟩, S, H⟩; replace N1 := N1.hold H; replace N2 := N2.hold H; replace N3 := N3.hold H; replace r1 := r1.hold H; replace r2 := r2.hold H; replace ns := ns.hold H; replace nd := nd.hold H; replace nt := nt.hold H; replace nu := nu.hold H; clear H
      go_wp2_with fail
      refine hK.out _ _ ⟨S.c 6 0 rfl rfl, S.c 6 1 rfl rfl, S.c 4 0 rfl rfl, S.c 4 1 rfl rfl, S.c 5 0 rfl rfl, S.c 5 1 rfl rfl, S.c 7 0 rfl rfl, S.c 7 1 rfl rfl, S.c 9 0 rfl rfl, S.c 9 1 rfl rfl, S.c 2 0 rfl rfl, S.c 2 1 rfl rfl, S.c 11 0 rfl rfl, S.c 11 1 rfl rfl⟩ (fun hS => ?_)
      clear hK K
      try simp only [Act.put, List.setIfInBounds_toArray, List.set_cons_zero, List.set_cons_succ]
      refine wpAnyH_ready (rs := [19]) (by kernel_rfl) (by simp) (AllReadyH.cons ((List.getElem?_toArray ..).trans rfl) (fun K hK => ?_) AllReadyH.nil)
      go_simp
      refine (S.call (sigIs_any ⟨_, _, _, rfl, ns⟩ ⟨c3, q3, j3, J3, m3, rfl, e3, r3⟩ (nb_max BS.out (by decide)))).mono ?_; clear S; rintro e w68 ⟨rfl, S, H⟩; replace N1 := N1.hold H; replace N2 := N2.hold H; replace N3 := N3.hold H; replace r1 := r1.hold H; replace r2 := r2.hold H; replace ns := ns.hold H; replace nd := nd.hold H; replace nt := nt.hold H; replace nu := nu.hold H; replace r3 := r3.hold H; clear H
      go_wp2_with fail
      refine hK.out _ _ ⟨S.c 6 0 rfl rfl, S.c 6 1 rfl rfl, S.c 4 0 rfl rfl, S.c 4 1 rfl rfl, S.c 5 0 rfl rfl, S.c 5 1 rfl rfl, S.c 7 0 rfl rfl, S.c 7 1 rfl rfl, S.c 9 0 rfl rfl, S.c 9 1 rfl rfl, S.c 2 0 rfl rfl, S.c 2 1 rfl rfl, S.c 11 0 rfl rfl, S.c 11 1 rfl rfl⟩ (fun hS => ?_)
      clear hK K
      try simp only [Act.put, List.setIfInBounds_toArray, List.set_cons_zero, List.set_cons_succ]
      refine wpAnyH_take (i := 20) (v := ?_) ((List.getElem?_toArray ..).trans rfl) (by kernel_rfl) (by kernel_rfl) (by kernel_rfl) (fun _ _ _ h => h) (Or.inl ⟨rfl, fun W hW => ?_⟩) hS ?_
      rotate_left
      · obtain ⟨hW0, hW1, hW2, hW3, hW4, hW5, hW6, hW7, hW8, hW9, hW10, hW11, hW12, hW13⟩ := hW; go_simp; try first | rfl | kernel_rfl
      try simp only [Act.put, List.setIfInBounds_toArray, List.set_cons_zero, List.set_cons_succ]
      refine wpAnyH_take (i := 21) (v := ?_) ((List.getElem?_toArray ..).trans rfl) (by kernel_rfl) (by kernel_rfl) (by kernel_rfl) (fun _ _ _ h => h) (Or.inl ⟨rfl, fun W hW => ?_⟩) hS ?_
      rotate_left
      · obtain ⟨hW0, hW1, hW2, hW3, hW4, hW5, hW6, hW7, hW8, hW9, hW10, hW11, hW12, hW13⟩ := hW; go_simp; try first | rfl | kernel_rfl
      try simp only [Act.put, List.setIfInBounds_toArray, List.set_cons_zero, List.set_cons_succ]
      refine wpAnyH_take (i := 22) (v := ?_) ((List.getElem?_toArray ..).trans rfl) (by kernel_rfl) (by kernel_rfl) (by kernel_rfl) (fun _ _ _ h => h) (Or.inl ⟨rfl, fun W hW => ?_⟩) hS ?_
      rotate_left
      · obtain ⟨hW0, hW1, hW2, hW3, hW4, hW5, hW6, hW7, hW8, hW9, hW10, hW11, hW12, hW13⟩ := hW; go_simp; try first | rfl | kernel_rfl
      try simp only [Act.put, List.setIfInBounds_toArray, List.set_cons_zero, List.set_cons_succ]
      refine wpAnyH_take (i := 23) (v := ?_) ((List.getElem?_toArray ..).trans rfl) (by kernel_rfl) (by kernel_rfl) (by kernel_rfl) (fun _ _ _ h => h) (Or.inl ⟨rfl, fun W hW => ?_⟩) hS ?_
      rotate_left
      · obtain ⟨hW0, hW1, hW2, hW3, hW4, hW5, hW6, hW7, hW8, hW9, hW10, hW11, hW12, hW13⟩ := hW; go_simp; try first | rfl | kernel_rfl
      try simp only [Act.put, List.setIfInBounds_toArray, List.set_cons_zero, List.set_cons_succ]
      refine wpAnyH_take (i := 24) (v := ?_) ((List.getElem?_toArray ..).trans rfl) (by kernel_rfl) (by kernel_rfl) (by kernel_rfl) (fun _ _ _ h => h) (Or.inl ⟨rfl, fun W hW => ?_⟩) hS ?_
      rotate_left
      · obtain ⟨hW0, hW1, hW2, hW3, hW4, hW5, hW6, hW7, hW8, hW9, hW10, hW11, hW12, hW13⟩ := hW; go_simp; try first | rfl | kernel_rfl
      try simp only [Act.put, List.setIfInBounds_toArray, List.set_cons_zero, List.set_cons_succ]
      refine wpAnyH_take (i := 25) (v := ?_) ((List.getElem?_toArray ..).trans rfl) (by kernel_rfl) (by kernel_rfl) (by kernel_rfl) (fun _ _ _ h => h) (Or.inl ⟨rfl, fun W hW => ?_⟩) hS ?_
      rotate_left
      · obtain ⟨hW0, hW1, hW2, hW3, hW4, hW5, hW6, hW7, hW8, hW9, hW10, hW11, hW12, hW13⟩ := hW; go_simp; try first | rfl | kernel_rfl
      try simp only [Act.put, List.setIfInBounds_toArray, List.set_cons_zero, List.set_cons_succ]
      refine wpAnyH_take (i := 26) (v := ?_) ((List.getElem?_toArray ..).trans rfl) (by kernel_rfl) (by kernel_rfl) (by kernel_rfl) (fun _ _ _ h => h) (Or.inl ⟨rfl, fun W hW => ?_⟩) hS ?_
      rotate_left
      · obtain ⟨hW0, hW1, hW2, hW3, hW4, hW5, hW6, hW7, hW8, hW9, hW10, hW11, hW12, hW13⟩ := hW; go_simp; try first | rfl | kernel_rfl
      try simp only [Act.put, List.setIfInBounds_toArray, List.set_cons_zero, List.set_cons_succ]
      refine wpAnyH_take (i := 27) (v := ?_) ((List.getElem?_toArray ..).trans rfl) (by kernel_rfl) (by kernel_rfl) (by kernel_rfl) (fun _ _ _ h => h) (Or.inl ⟨rfl, fun W hW => ?_⟩) hS ?_
      rotate_left
      · obtain ⟨hW0, hW1, hW2, hW3, hW4, hW5, hW6, hW7, hW8, hW9, hW10, hW11, hW12, hW13⟩ := hW; go_simp; try first | rfl | kernel_rfl
      try simp only [Act.put, List.setIfInBounds_toArray, List.set_cons_zero, List.set_cons_succ]
      refine wpAnyH_take (i := 28) (v := ?_) ((List.getElem?_toArray ..).trans rfl) (by kernel_rfl) (by kernel_rfl) (by kernel_rfl) (fun _ _ _ h => h) (Or.inl ⟨rfl, fun W hW => ?_⟩) hS ?_
      rotate_left
      · obtain ⟨hW0, hW1, hW2, hW3, hW4, hW5, hW6, hW7, hW8, hW9, hW10, hW11, hW12, hW13⟩ := hW; go_simp; try first | rfl | kernel_rfl
      try simp only [Act.put, List.setIfInBounds_toArray, List.set_cons_zero, List.set_cons_succ]
      refine wpAnyH_take (i := 29) (v := ?_) ((List.getElem?_toArray ..).trans rfl) (by kernel_rfl) (by kernel_rfl) (by kernel_rfl) (fun _ _ _ h => h) (Or.inl ⟨rfl, fun W hW => ?_⟩) hS ?_
      rotate_left
      · obtain ⟨hW0, hW1, hW2, hW3, hW4, hW5, hW6, hW7, hW8, hW9, hW10, hW11, hW12, hW13⟩ := hW; go_simp; try first | rfl | kernel_rfl
      try simp only [Act.put, List.setIfInBounds_toArray, List.set_cons_zero, List.set_cons_succ]
      refine wpAnyH_ready (rs := [30]) (by kernel_rfl) (by simp) (AllReadyH.cons ((List.getElem?_toArray ..).trans rfl) (fun K hK => ?_) AllReadyH.nil)
      go_simp
      refine (S.call (sigAdd_to ⟨c1, q1, j1, J1, m1, rfl, e1, r1⟩ ⟨!c2, q2, j2, J2, m2, rfl, sig_neg e2.out, r2⟩ (nb_max M1.out (by decide)) (by rw [Int.natAbs_neg]; exact (nb_max M2.out (by decide))) zd HZ.out.2.2.1)).mono ?_; clear S; rintro e w69 ⟨⟨_, rfl, c4, q4, j4, J4, m4, rfl, e4, r4⟩, S, H⟩; replace N1 := N1.hold H; replace N2 := N2.hold H; replace N3 := N3.hold H; replace r1 := r1.hold H; replace r2 := r2.hold H; replace ns := ns.hold H; replace nd := nd.hold H; replace nt := nt.hold H; replace nu := nu.hold H; replace r3 := r3.hold H; clear H
      go_wp2_with fail
      refine hK.out _ _ ⟨S.c 6 0 rfl rfl, S.c 6 1 rfl rfl, S.c 4 0 rfl rfl, S.c 4 1 rfl rfl, S.c 5 0 rfl rfl, S.c 5 1 rfl rfl, S.c 7 0 rfl rfl, S.c 7 1 rfl rfl, S.c 9 0 rfl rfl, S.c 9 1 rfl rfl, S.c 2 0 rfl rfl, S.c 2 1 rfl rfl, S.c 11 0 rfl rfl, S.c 11 1 rfl rfl⟩ (fun hS => ?_)
      clear hK K
      try simp only [Act.put, List.setIfInBounds_toArray, List.set_cons_zero, List.set_cons_succ]
      refine wpAnyH_ready (rs := [31]) (by kernel_rfl) (by simp) (AllReadyH.cons ((List.getElem?_toArray ..).trans rfl) (fun K hK => ?_) AllReadyH.nil)
      go_simp
      refine (S.call (sigIs_any ⟨_, _, _, rfl, nd⟩ ⟨c4, q4, j4, J4, m4, rfl, e4, r4⟩ (nb_max BD.out (by decide)))).mono ?_; clear S; rintro e w70 ⟨rfl, S, H⟩; replace N1 := N1.hold H; replace N2 := N2.hold H; replace N3 := N3.hold H; replace r1 := r1.hold H; replace r2 := r2.hold H; replace ns := ns.hold H; replace nd := nd.hold H; replace nt := nt.hold H; replace nu := nu.hold H; replace r3 := r3.hold H; replace r4 := r4.hold H; clear H
      go_wp2_with fail
      refine hK.out _ _ ⟨S.c 6 0 rfl rfl, S.c 6 1 rfl rfl, S.c 4 0 rfl rfl, S.c 4 1 rfl rfl, S.c 5 0 rfl rfl, S.c 5 1 rfl rfl, S.c 7 0 rfl rfl, S.c 7 1 rfl rfl, S.c 9 0 rfl rfl, S.c 9 1 rfl rfl, S.c 2 0 rfl rfl, S.c 2 1 rfl rfl, S.c 11 0 rfl rfl, S.c 11 1 rfl rfl⟩ (fun hS => ?_)
      clear hK K
      try simp only [Act.put, List.setIfInBounds_toArray, List.set_cons_zero, List.set_cons_succ]
      refine wpAnyH_take (i := 32) (v := ?_) ((List.getElem?_toArray ..).trans rfl) (by kernel_rfl) (by kernel_rfl) (by kernel_rfl) (fun _ _ _ h => h) (Or.inl ⟨rfl, fun W hW => ?_⟩) hS ?_
      rotate_left
      · obtain ⟨hW0, hW1, hW2, hW3, hW4, hW5, hW6, hW7, hW8, hW9, hW10, hW11, hW12, hW13⟩ := hW; go_simp; try first | rfl | kernel_rfl
      try simp only [Act.put, List.setIfInBounds_toArray, List.set_cons_zero, List.set_cons_succ]
      refine wpAnyH_take (i := 33) (v := ?_) ((List.getElem?_toArray ..).trans rfl) (by kernel_rfl) (by kernel_rfl) (by kernel_rfl) (fun _ _ _ h => h) (Or.inl ⟨rfl, fun W hW => ?_⟩) hS ?_
      rotate_left
      · obtain ⟨hW0, hW1, hW2, hW3, hW4, hW5, hW6, hW7, hW8, hW9, hW10, hW11, hW12, hW13⟩ := hW; go_simp; try first | rfl | kernel_rfl
      try simp only [Act.put, List.setIfInBounds_toArray, List.set_cons_zero, List.set_cons_succ]
      refine wpAnyH_take (i := 34) (v := ?_) ((List.getElem?_toArray ..).trans rfl) (by kernel_rfl) (by kernel_rfl) (by kernel_rfl) (fun _ _ _ h => h) (Or.inl ⟨rfl, fun W hW => ?_⟩) hS ?_
      rotate_left
      · obtain ⟨hW0, hW1, hW2, hW3, hW4, hW5, hW6, hW7, hW8, hW9, hW10, hW11, hW12, hW13⟩ := hW; go_simp; try first | rfl | kernel_rfl
      try simp only [Act.put, List.setIfInBounds_toArray, List.set_cons_zero, List.set_cons_succ]
      refine wpAnyH_take (i := 35) (v := ?_) ((List.getElem?_toArray ..).trans rfl) (by kernel_rfl) (by kernel_rfl) (by kernel_rfl) (fun _ _ _ h => h) (Or.inl ⟨rfl, fun W hW => ?_⟩) hS ?_
      rotate_left
      · obtain ⟨hW0, hW1, hW2, hW3, hW4, hW5, hW6, hW7, hW8, hW9, hW10, hW11, hW12, hW13⟩ := hW; go_simp; try first | rfl | kernel_rfl
      try simp only [Act.put, List.setIfInBounds_toArray, List.set_cons_zero, List.set_cons_succ]
      refine wpAnyH_take (i := 36) (v := ?_) ((List.getElem?_toArray ..).trans rfl) (by kernel_rfl) (by kernel_rfl) (by kernel_rfl) (fun _ _ _ h => h) (Or.inl ⟨rfl, fun W hW => ?_⟩) hS ?_
      rotate_left
      · obtain ⟨hW0, hW1, hW2, hW3, hW4, hW5, hW6, hW7, hW8, hW9, hW10, hW11, hW12, hW13⟩ := hW; go_simp; try first | rfl | kernel_rfl
      try simp only [Act.put, List.setIfInBounds_toArray, List.set_cons_zero, List.set_cons_succ]
      refine wpAnyH_take (i := 38) (v := ?_) ((List.getElem?_toArray ..).trans rfl) (by kernel_rfl) (by kernel_rfl) (by kernel_rfl) (fun _ _ _ h => h) (Or.inl ⟨rfl, fun W hW => ?_⟩) hS ?_
      rotate_left
      · obtain ⟨hW0, hW1, hW2, hW3, hW4, hW5, hW6, hW7, hW8, hW9, hW10, hW11, hW12, hW13⟩ := hW; go_simp; try first | rfl | kernel_rfl
      try simp only [Act.put, List.setIfInBounds_toArray, List.set_cons_zero, List.set_cons_succ]
      refine wpAnyH_ready (rs := [37]) (by kernel_rfl) (by simp) (AllReadyH.cons ((List.getElem?_toArray ..).trans rfl) (fun K hK => ?_) AllReadyH.nil)
      go_simp
      refine (S.call (sigAdd_to ⟨c1, q1, j1, J1, m1, rfl, e1, r1⟩ ⟨c2, q2, j2, J2, m2, rfl, e2, r2⟩ (nb_max M1.out (by decide)) (nb_max M2.out (by decide)) zs HZ.out.1)).mono ?_; clear S; rintro e w71 ⟨⟨_, rfl, c5, q5, j5, J5, m5, rfl, e5, r5⟩, S, H⟩; replace N1 := N1.hold H; replace N2 := N2.hold H; replace N3 := N3.hold H; replace r1 := r1.hold H; replace r2 := r2.hold H; replace ns := ns.hold H; replace nd := nd.hold H; replace nt := nt.hold H; replace nu := nu.hold H; replace r3 := r3.hold H; replace r4 := r4.hold H; clear H
      go_wp2_with fail
      refine hK.out _ _ ⟨S.c 6 0 rfl rfl, S.c 6 1 rfl rfl, S.c 4 0 rfl rfl, S.c 4 1 rfl rfl, S.c 5 0 rfl rfl, S.c 5 1 rfl rfl, S.c 7 0 rfl rfl, S.c 7 1 rfl rfl, S.c 9 0 rfl rfl, S.c 9 1 rfl rfl, S.c 2 0 rfl rfl, S.c 2 1 rfl rfl, S.c 11 0 rfl rfl, S.c 11 1 rfl rfl⟩ (fun hS => ?_)
      clear hK K
      try simp only [Act.put, List.setIfInBounds_toArray, List.set_cons_zero, List.set_cons_succ]
      refine wpAnyH_ready (rs := [39]) (by kernel_rfl) (by simp) (AllReadyH.cons ((List.getElem?_toArray ..).trans rfl) (fun K hK => ?_) AllReadyH.nil)
      go_simp
      refine (S.call (sigOf_any ⟨_, _, _, by rw [hz3.out], N3⟩ (nb_max M3.out (by decide)))).mono ?_; clear S; rintro e w72 ⟨⟨_, rfl, c6, q6, j6, J6, m6, rfl, e6, r6⟩, S, H⟩; replace N1 := N1.hold H; replace N2 := N2.hold H; replace N3 := N3.hold H; replace r1 := r1.hold H; replace r2 := r2.hold H; replace ns := ns.hold H; replace nd := nd.hold H; replace nt := nt.hold H; replace nu := nu.hold H; replace r3 := r3.hold H; replace r4 := r4.hold H; replace r5 := r5.hold H; clear H
      go_wp2_with fail
      refine hK.out _ _ ⟨S.c 6 0 rfl rfl, S.c 6 1 rfl rfl, S.c 4 0 rfl rfl, S.c 4 1 rfl rfl, S.c 5 0 rfl rfl, S.c 5 1 rfl rfl, S.c 7 0 rfl rfl, S.c 7 1 rfl rfl, S.c 9 0 rfl rfl, S.c 9 1 rfl rfl, S.c 2 0 rfl rfl, S.c 2 1 rfl rfl, S.c 11 0 rfl rfl, S.c 11 1 rfl rfl⟩ (fun hS => ?_)
      clear hK K
      try simp only [Act.put, List.setIfInBounds_toArray, List.set_cons_zero, List.set_cons_succ]
      refine wpAnyH_ready (rs := [40]) (by kernel_rfl) (by simp) (AllReadyH.cons ((List.getElem?_toArray ..).trans rfl) (fun K hK => ?_) AllReadyH.nil)
      go_simp
      refine (S.call (sigAdd_to ⟨c5, q5, j5, J5, m5, rfl, e5, r5⟩ ⟨c6, q6, j6, J6, m6, rfl, e6, r6⟩ (nb_max BS.out (by decide)) (nb_max M3.out (by decide)) zt HZ.out.2.2.2.1)).mono ?_; clear S; rintro e w73 ⟨⟨_, rfl, c7, q7, j7, J7, m7, rfl, e7, r7⟩, S, H⟩; replace N1 := N1.hold H; replace N2 := N2.hold H; replace N3 := N3.hold H; replace r1 := r1.hold H; replace r2 := r2.hold H; replace ns := ns.hold H; replace nd := nd.hold H; replace nt := nt.hold H; replace nu := nu.hold H; replace r3 := r3.hold H; replace r4 := r4.hold H; replace r5 := r5.hold H; replace r6 := r6.hold H; clear H
      go_wp2_with fail
      refine hK.out _ _ ⟨S.c 6 0 rfl rfl, S.c 6 1 rfl rfl, S.c 4 0 rfl rfl, S.c 4 1 rfl rfl, S.c 5 0 rfl rfl, S.c 5 1 rfl rfl, S.c 7 0 rfl rfl, S.c 7 1 rfl rfl, S.c 9 0 rfl rfl, S.c 9 1 rfl rfl, S.c 2 0 rfl rfl, S.c 2 1 rfl rfl, S.c 11 0 rfl rfl, S.c 11 1 rfl rfl⟩ (fun hS => ?_)
      clear hK K
      try simp only [Act.put, List.setIfInBounds_toArray, List.set_cons_zero, List.set_cons_succ]
      refine wpAnyH_ready (rs := [41]) (by kernel_rfl) (by simp) (AllReadyH.cons ((List.getElem?_toArray ..).trans rfl) (fun K hK => ?_) AllReadyH.nil)
      go_simp
      refine (S.call (sigIs_any ⟨_, _, _, rfl, nt⟩ ⟨c7, q7, j7, J7, m7, rfl, e7, r7⟩ (nb_max BT.out (by decide)))).mono ?_; clear S; rintro e w74 ⟨rfl, S, H⟩; replace N1 := N1.hold H; replace N2 := N2.hold H; replace N3 := N3.hold H; replace r1 := r1.hold H; replace r2 := r2.hold H; replace ns := ns.hold H; replace nd := nd.hold H; replace nt := nt.hold H; replace nu := nu.hold H; replace r3 := r3.hold H; replace r4 := r4.hold H; replace r5 := r5.hold H; replace r6 := r6.hold H; replace r7 := r7.hold H; clear H
      go_wp2_with fail
      refine hK.out _ _ ⟨S.c 6 0 rfl rfl, S.c 6 1 rfl rfl, S.c 4 0 rfl rfl, S.c 4 1 rfl rfl, S.c 5 0 rfl rfl, S.c 5 1 rfl rfl, S.c 7 0 rfl rfl, S.c 7 1 rfl rfl, S.c 9 0 rfl rfl, S.c 9 1 rfl rfl, S.c 2 0 rfl rfl, S.c 2 1 rfl rfl, S.c 11 0 rfl rfl, S.c 11 1 rfl rfl⟩ (fun hS => ?_)
      clear hK K
      try simp only [Act.put, List.setIfInBounds_toArray, List.set_cons_zero, List.set_cons_succ]
      refine wpAnyH_take (i := 42) (v := ?_) ((List.getElem?_toArray ..).trans rfl) (by kernel_rfl) (by kernel_rfl) (by kernel_rfl) (fun _ _ _ h => h) (Or.inl ⟨rfl, fun W hW => ?_⟩) hS ?_
      rotate_left
      · obtain ⟨hW0, hW1, hW2, hW3, hW4, hW5, hW6, hW7, hW8, hW9, hW10, hW11, hW12, hW13⟩ := hW; go_simp; try first | rfl | kernel_rfl
      try simp only [Act.put, List.setIfInBounds_toArray, List.set_cons_zero, List.set_cons_succ]
      refine wpAnyH_take (i := 43) (v := ?_) ((List.getElem?_toArray ..).trans rfl) (by kernel_rfl) (by kernel_rfl) (by kernel_rfl) (fun _ _ _ h => h) (Or.inl ⟨rfl, fun W hW => ?_⟩) hS ?_
      rotate_left
      · obtain ⟨hW0, hW1, hW2, hW3, hW4, hW5, hW6, hW7, hW8, hW9, hW10, hW11, hW12, hW13⟩ := hW; go_simp; try first | rfl | kernel_rfl
      try simp only [Act.put, List.setIfInBounds_toArray, List.set_cons_zero, List.set_cons_succ]
      refine wpAnyH_take (i := 44) (v := ?_) ((List.getElem?_toArray ..).trans rfl) (by kernel_rfl) (by kernel_rfl) (by kernel_rfl) (fun _ _ _ h => h) (Or.inl ⟨rfl, fun W hW => ?_⟩) hS ?_
      rotate_left
      · obtain ⟨hW0, hW1, hW2, hW3, hW4, hW5, hW6, hW7, hW8, hW9, hW10, hW11, hW12, hW13⟩ := hW; go_simp; try first | rfl | kernel_rfl
      try simp only [Act.put, List.setIfInBounds_toArray, List.set_cons_zero, List.set_cons_succ]
      refine wpAnyH_take (i := 45) (v := ?_) ((List.getElem?_toArray ..).trans rfl) (by kernel_rfl) (by kernel_rfl) (by kernel_rfl) (fun _ _ _ h => h) (Or.inl ⟨rfl, fun W hW => ?_⟩) hS ?_
      rotate_left
      · obtain ⟨hW0, hW1, hW2, hW3, hW4, hW5, hW6, hW7, hW8, hW9, hW10, hW11, hW12, hW13⟩ := hW; go_simp; try first | rfl | kernel_rfl
      try simp only [Act.put, List.setIfInBounds_toArray, List.set_cons_zero, List.set_cons_succ]
      refine wpAnyH_ready (rs := [46]) (by kernel_rfl) (by simp) (AllReadyH.cons ((List.getElem?_toArray ..).trans rfl) (fun K hK => ?_) AllReadyH.nil)
      go_simp
      refine (S.call (wsame_any ⟨_, _, _, rfl, nt⟩ ⟨_, _, _, rfl, nu⟩ (nb_max BT.out (by decide)) (nb_max BT.out (by decide)) (r := true) (cmp_same zt))).mono ?_; clear S; rintro e w75 ⟨rfl, S, H⟩; replace N1 := N1.hold H; replace N2 := N2.hold H; replace N3 := N3.hold H; replace r1 := r1.hold H; replace r2 := r2.hold H; replace ns := ns.hold H; replace nd := nd.hold H; replace nt := nt.hold H; replace nu := nu.hold H; replace r3 := r3.hold H; replace r4 := r4.hold H; replace r5 := r5.hold H; replace r6 := r6.hold H; replace r7 := r7.hold H; clear H
      go_wp2_with fail
      refine hK.out _ _ ⟨S.c 6 0 rfl rfl, S.c 6 1 rfl rfl, S.c 4 0 rfl rfl, S.c 4 1 rfl rfl, S.c 5 0 rfl rfl, S.c 5 1 rfl rfl, S.c 7 0 rfl rfl, S.c 7 1 rfl rfl, S.c 9 0 rfl rfl, S.c 9 1 rfl rfl, S.c 2 0 rfl rfl, S.c 2 1 rfl rfl, S.c 11 0 rfl rfl, S.c 11 1 rfl rfl⟩ (fun hS => ?_)
      clear hK K
      try simp only [Act.put, List.setIfInBounds_toArray, List.set_cons_zero, List.set_cons_succ]
      refine wpAnyH_take (i := 47) (v := ?_) ((List.getElem?_toArray ..).trans rfl) (by kernel_rfl) (by kernel_rfl) (by kernel_rfl) (fun _ _ _ h => h) (Or.inl ⟨rfl, fun W hW => ?_⟩) hS ?_
      rotate_left
      · obtain ⟨hW0, hW1, hW2, hW3, hW4, hW5, hW6, hW7, hW8, hW9, hW10, hW11, hW12, hW13⟩ := hW; go_simp; try first | rfl | kernel_rfl
      try simp only [Act.put, List.setIfInBounds_toArray, List.set_cons_zero, List.set_cons_succ]
      refine wpAnyH_ready (rs := [48]) (by kernel_rfl) (by simp) (AllReadyH.cons ((List.getElem?_toArray ..).trans rfl) (fun K hK => ?_) AllReadyH.nil)
      go_simp
      refine hK.out _ _ ⟨S.c 6 0 rfl rfl, S.c 6 1 rfl rfl, S.c 4 0 rfl rfl, S.c 4 1 rfl rfl, S.c 5 0 rfl rfl, S.c 5 1 rfl rfl, S.c 7 0 rfl rfl, S.c 7 1 rfl rfl, S.c 9 0 rfl rfl, S.c 9 1 rfl rfl, S.c 2 0 rfl rfl, S.c 2 1 rfl rfl, S.c 11 0 rfl rfl, S.c 11 1 rfl rfl⟩ (fun hS => ?_)
      clear hK K
      try simp only [Act.put, List.setIfInBounds_toArray, List.set_cons_zero, List.set_cons_succ]
      refine wpAnyH_done (by kernel_rfl) ?_ _
      go_wp2_with fail
      exact bodyPost_ret (v := .bool true) (by simp [results, Tryd.f3, go_sem]) rfl (⟨rfl, S.below⟩)

end Go.Proofs.YtcopfjooopindaaDoor
