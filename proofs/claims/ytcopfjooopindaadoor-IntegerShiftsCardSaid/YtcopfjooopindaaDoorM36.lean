/-
  girdlelaw03.IntegerShifts, as a walk: whatever the number, and however far, it returns true.
-/
import Derived.Test.YtcopfjooopindaaDoorM04
import Derived.Test.YtcopfjooopindaaDoorM23
import Derived.Deep.DeepCutAuto

namespace Go.Proofs.YtcopfjooopindaaDoor
open Go.RowKit

theorem two_nb {k : Nat} (h : k ≤ 1000) : 2 ^ k < NB 32 := by
  unfold NB
  rw [show (4294967296 : Nat) = 2 ^ 32 by decide, ← Nat.pow_mul]
  obtain ⟨q, hq⟩ : ∃ q : Nat, q = 32 * 32 := ⟨_, rfl⟩
  rw [← hq]
  exact Nat.pow_lt_pow_right (by decide) (by omega)
theorem pow_cast (k : Nat) : (((2 ^ k : Nat) : Nat) : Int) = (2 : Int) ^ k := by simp

set_option maxRecDepth 100000 in
set_option maxHeartbeats 8000000 in
theorem integerShifts_any (b1 : Bool) (p1 : Option Addr) (K1 : Nat) (ds1 : List Nat) (n : Int) (w : World) (hT : Tab w) (at1 : At .u32 w p1 K1 ds1) (d1 : Dig 4294967296 ds1) (hn0 : -9223372036854775808 ≤ n) (hn1 : n ≤ 9223372036854775807) :
    Calls Tryd.prog 6 #[.agg #[.bool b1, .slice p1 ds1.length K1], .int .i64 n] w fun e w' => e = .returned (.bool true) ∧ Below w.heap.size w w' := by
  have HT := Lib.hid hT
  have HD := Lib.hid d1
  obtain ⟨l1, hl1⟩ : ∃ l, ds1.length = l := ⟨_, rfl⟩
  have HL := Lib.hid hl1
  rw [hl1]
  clear hT d1 hl1
  have Hn := Lib.hid (And.intro hn0 hn1)
  clear hn0 hn1
  have S := (St.start w).alloc 25 [.bool b1, .slice p1 l1 K1] (w.heap.size)
  replace at1 := at1.hold S.hold
  have c0_0 := S.c 0 0 rfl rfl
  have c0_1 := S.c 0 1 rfl rfl
  go_enter Tryd.func6, Tryd.ntmps6
  go_wp2_with fail
  clear c0_0 c0_1
  refine (S.call (counts_any _ (HT.out.below S.below))).mono ?_
  clear S
  rintro e w1 ⟨rfl, S, H⟩
  replace at1 := at1.hold H
  clear H
  have c0_0 := S.c 0 0 rfl rfl
  have c0_1 := S.c 0 1 rfl rfl
  have H := S.hnew 25 [.bool b1, .slice p1 l1 K1]
  replace S := S.alloc 25 [.bool b1, .slice p1 l1 K1] (w1.heap.size)
  replace at1 := at1.hold H
  clear H
  go_wp2_with fail
  clear c0_0 c0_1
  refine (S.call (wfit_any _ 1 _ _ _ _ _ (S.lt 1 rfl) (by decide) (raws1 S 1 rfl HL.out at1 HD.out))).mono ?_
  clear S
  rintro e w2 ⟨⟨b, rfl, hb⟩, S, H⟩
  replace at1 := at1.hold H
  clear H
  have c0_0 := S.c 0 0 rfl rfl
  have c0_1 := S.c 0 1 rfl rfl
  cases b with
  | false =>
    go_wp2_with fail
    exact bodyPost_ret (v := .bool true) (by simp [results, Tryd.f6, go_sem]) rfl (⟨rfl, S.below⟩)
  | true =>
    by_cases hn0 : n < 0
    · skip
      go_wp2_with fail
      exact bodyPost_ret (v := .bool true) (by simp [results, Tryd.f6, go_sem]) rfl (⟨rfl, S.below⟩)
    by_cases hn1 : 1000 < n
    · skip
      go_wp2_with fail
      exact bodyPost_ret (v := .bool true) (by simp [results, Tryd.f6, go_sem]) rfl (⟨rfl, S.below⟩)
    have t := hb.out rfl
    have T1 : Tried3 30 b1 ds1 := t 0 (by decide)
    obtain ⟨z1, hz1, hm1, N1⟩ := tried_int T1 HD.out HL.out at1
    have M1 := Lib.hid hm1
    clear at1
    clear t hb T1 hm1
    obtain ⟨k, rfl⟩ : ∃ k : Nat, n = (k : Int) := ⟨n.toNat, by omega⟩
    have HK := Lib.hid (show k ≤ 1000 by omega)
    have B2 := Lib.hid (two_nb HK.out)
    have hn0' : ¬ (k : Int) < 0 := by omega
    clear hn0
    obtain ⟨zl, hzl⟩ : ∃ z, z1 * 2 ^ k = z := ⟨_, rfl⟩
    obtain ⟨zr, hzr⟩ : ∃ z, z1 / 2 ^ k = z := ⟨_, rfl⟩
    obtain ⟨zm, hzm⟩ : ∃ z, z1 % 2 ^ k = z := ⟨_, rfl⟩
    have hb : zl / 2 ^ k = z1 := by rw [← hzl, Int.mul_ediv_cancel _ (by have := Int.pow_pos (n := 2) (m := k) (by decide); omega)]
    have BL := Lib.hid (show z1.natAbs * 2 ^ k < NB 62 from nb_mul M1.out B2.out)
    have BL2 := Lib.hid (show zl.natAbs < NB 62 by rw [← hzl, Int.natAbs_mul, Int.natAbs_pow]; exact BL.out)
    have BR := Lib.hid (show zr.natAbs < NB 30 from hzr ▸ Nat.lt_of_le_of_lt (Int.natAbs_ediv_le_natAbs _ _) M1.out)
    have HZ := Lib.hid (And.intro hzl (And.intro hzr (And.intro hzm hb)))
    clear hzl hzr hzm hb
    go_wp2_with fail
    clear c0_0 c0_1
    refine (S.call (of_one)).mono ?_
    clear S
    rintro e w3 ⟨⟨v1, rfl, nv1⟩, S, H⟩
    replace N1 := N1.hold H
    clear H
    have c0_0 := S.c 0 0 rfl rfl
    have c0_1 := S.c 0 1 rfl rfl
    go_wp2_with fail
    clear c0_0 c0_1
    refine (S.call (left_fit nv1 (lit_max 1 (by decide)) k (by have := HK.out; omega) (by rw [Nat.one_mul]; exact nb_max B2.out (by decide)))).mono ?_
    clear S
    rintro e w4 ⟨⟨vp, rfl, nvp⟩, S, H⟩
    replace N1 := N1.hold H
    replace nv1 := nv1.hold H
    clear H
    have c0_0 := S.c 0 0 rfl rfl
    have c0_1 := S.c 0 1 rfl rfl
    go_wp2_with fail
    clear c0_0 c0_1
    refine (S.call (wleft_any ⟨_, _, _, by rw [hz1.out], N1⟩ (nb_max M1.out (by decide)) k (by have := HK.out; omega) (nb_max BL.out (by decide)) zl HZ.out.1)).mono ?_
    clear S
    rintro e w5 ⟨⟨_, rfl, pl, ll, Kl, rfl, nl⟩, S, H⟩
    replace N1 := N1.hold H
    replace nv1 := nv1.hold H
    replace nvp := nvp.hold H
    clear H
    have c0_0 := S.c 0 0 rfl rfl
    have c0_1 := S.c 0 1 rfl rfl
    have H := S.hnew 25 [.bool (negB zl), .slice pl ll Kl]
    replace S := S.alloc 25 [.bool (negB zl), .slice pl ll Kl] (w5.heap.size)
    replace N1 := N1.hold H
    replace nv1 := nv1.hold H
    replace nvp := nvp.hold H
    replace nl := nl.hold H
    clear H
    clear c0_0 c0_1
    have c0_0 := S.c 0 0 rfl rfl
    have c0_1 := S.c 0 1 rfl rfl
    have c2_0 := S.c 2 0 rfl rfl
    have c2_1 := S.c 2 1 rfl rfl
    go_wp2_with fail
    clear c0_0 c0_1 c2_0 c2_1
    refine (S.call (wright_any (HT.out.below S.below) ⟨_, _, _, by rw [hz1.out], N1⟩ (nb_max M1.out (by decide)) k (by have := HK.out; omega) zr HZ.out.2.1)).mono ?_
    clear S
    rintro e w6 ⟨⟨_, rfl, pr, lr, Kr, rfl, nr⟩, S, H⟩
    replace N1 := N1.hold H
    replace nv1 := nv1.hold H
    replace nvp := nvp.hold H
    replace nl := nl.hold H
    clear H
    have c0_0 := S.c 0 0 rfl rfl
    have c0_1 := S.c 0 1 rfl rfl
    have c2_0 := S.c 2 0 rfl rfl
    have c2_1 := S.c 2 1 rfl rfl
    have H := S.hnew 25 [.bool (negB zr), .slice pr lr Kr]
    replace S := S.alloc 25 [.bool (negB zr), .slice pr lr Kr] (w6.heap.size)
    replace N1 := N1.hold H
    replace nv1 := nv1.hold H
    replace nvp := nvp.hold H
    replace nl := nl.hold H
    replace nr := nr.hold H
    clear H
    clear c0_0 c0_1 c2_0 c2_1
    have c0_0 := S.c 0 0 rfl rfl
    have c0_1 := S.c 0 1 rfl rfl
    have c2_0 := S.c 2 0 rfl rfl
    have c2_1 := S.c 2 1 rfl rfl
    have c3_0 := S.c 3 0 rfl rfl
    have c3_1 := S.c 3 1 rfl rfl
    go_upto_region 8 with fail
    clear c0_0 c0_1 c2_0 c2_1 c3_0 c3_1
    generalize (.tuple #[.agg #[.bool (negB zl), .slice pl ll Kl], .int .i64 0] : Value) = x1
    generalize (.tuple #[.agg #[.bool (negB zr), .slice pr lr Kr], .int .i64 0] : Value) = x2
    generalize (.agg #[.bool (negB zl), .slice pl ll Kl] : Value) = x3
    generalize (.agg #[.bool (negB zr), .slice pr lr Kr] : Value) = x4
    generalize (w6.alloc (.cells #[.bool (negB zr), .slice pr lr Kr] 25)) = w7 at S N1 nv1 nvp nl nr ⊢
    go_cut [11, 12] (fun s11 s12 wx => ∃ g11 pm lm Km, s11 = .pointer (some ⟨g11, 0, none⟩) ∧ s12 = .int .i64 0 ∧ St w wx [(w.heap.size, 25, [.bool b1, .slice p1 l1 K1]), (w1.heap.size, 25, [.bool b1, .slice p1 l1 K1]), (w5.heap.size, 25, [.bool (negB zl), .slice pl ll Kl]), (w6.heap.size, 25, [.bool (negB zr), .slice pr lr Kr]), (g11, 25, [.bool (negB zl), .slice pm lm Km])] ∧ IsNat wx (.slice pm lm Km) zl.natAbs ∧ Hold w7 wx)
    case first =>
      have HH := Hold.drew w7
      replace N1 := N1.hold HH
      replace nv1 := nv1.hold HH
      replace nvp := nvp.hold HH
      replace nl := nl.hold HH
      replace nr := nr.hold HH
      replace S := S.drew
      refine wp_region_held_drew (S := fun W => W.cell? ⟨w.heap.size, 0, none⟩ = some (.bool b1) ∧ W.cell? ⟨w.heap.size, 1, none⟩ = some (.slice p1 l1 K1)) (by kernel_rfl) ⟨S.c 0 0 rfl rfl, S.c 0 1 rfl rfl⟩ (fun hS => ?_)
      generalize w7.drew = w8 at S N1 nv1 nvp nl nr HH hS ⊢
      refine wpAnyH_take (i := 0) (v := ?_) ((List.getElem?_toArray ..).trans rfl) (by kernel_rfl) (by kernel_rfl) (by kernel_rfl) (fun _ _ _ h => h) (Or.inl ⟨rfl, fun W hW => ?_⟩) hS ?_
      rotate_left
      · obtain ⟨hW0, hW1⟩ := hW; go_simp; try first | rfl | kernel_rfl
      try simp only [Act.put, List.setIfInBounds_toArray, List.set_cons_zero, List.set_cons_succ]
      refine wpAnyH_take (i := 1) (v := ?_) ((List.getElem?_toArray ..).trans rfl) (by kernel_rfl) (by kernel_rfl) (by kernel_rfl) (fun _ _ _ h => h) (Or.inl ⟨rfl, fun W hW => ?_⟩) hS ?_
      rotate_left
      · obtain ⟨hW0, hW1⟩ := hW; go_simp; try first | rfl | kernel_rfl
      try simp only [Act.put, List.setIfInBounds_toArray, List.set_cons_zero, List.set_cons_succ]
      refine wpAnyH_ready (rs := [2, 7]) (by kernel_rfl) (by simp) (AllReadyH.cons ((List.getElem?_toArray ..).trans rfl) (fun K hK => ?_) (AllReadyH.cons ((List.getElem?_toArray ..).trans rfl) (fun K hK => ?_) AllReadyH.nil))
      ·
        go_simp
        clear hS
        refine (S.call (wnat_any nvp (by rw [Nat.one_mul]; exact nb_max B2.out (by decide)) ((2 : Int) ^ k) (by simp))).mono ?_
        clear S
        rintro e w9 ⟨⟨_, rfl, pn, ln, Kn, rfl, nn⟩, S, H⟩
        replace N1 := N1.hold H
        replace nv1 := nv1.hold H
        replace nvp := nvp.hold H
        replace nl := nl.hold H
        replace nr := nr.hold H
        replace HH := HH.trans H
        clear H
        go_wp2_with fail
        refine hK.out _ _ ⟨S.c 0 0 rfl rfl, S.c 0 1 rfl rfl⟩ (fun hS => ?_)
        clear hK K
        try simp only [Act.put, List.setIfInBounds_toArray, List.set_cons_zero, List.set_cons_succ]
        refine wpAnyH_ready (rs := [3, 7]) (by kernel_rfl) (by simp) (AllReadyH.cons ((List.getElem?_toArray ..).trans rfl) (fun K hK => ?_) (AllReadyH.cons ((List.getElem?_toArray ..).trans rfl) (fun K hK => ?_) AllReadyH.nil))
        ·
          go_simp
          clear hS
          refine (S.call (wmul_to ⟨_, _, _, by rw [hz1.out], N1⟩ ⟨_, _, _, rfl, nn⟩ (nb_max M1.out (by decide)) (by rw [Int.natAbs_pow]; exact nb_max B2.out (by decide)) zl HZ.out.1 (nb_max BL2.out (by decide)))).mono ?_
          clear S
          rintro e w10 ⟨⟨_, rfl, pm, lm, Km, rfl, nm⟩, S, H⟩
          replace N1 := N1.hold H
          replace nv1 := nv1.hold H
          replace nvp := nvp.hold H
          replace nl := nl.hold H
          replace nr := nr.hold H
          replace nn := nn.hold H
          replace HH := HH.trans H
          clear H
          go_wp2_with fail
          refine hK.out _ _ ⟨S.c 0 0 rfl rfl, S.c 0 1 rfl rfl⟩ (fun hS => ?_)
          clear hK K
          try simp only [Act.put, List.setIfInBounds_toArray, List.set_cons_zero, List.set_cons_succ]
          refine wpAnyH_take (i := 4) (v := ?_) ((List.getElem?_toArray ..).trans rfl) (by kernel_rfl) (by kernel_rfl) (by kernel_rfl) (fun _ _ _ h => h) (Or.inl ⟨rfl, fun W hW => ?_⟩) hS ?_
          rotate_left
          · obtain ⟨hW0, hW1⟩ := hW; go_simp; try first | rfl | kernel_rfl
          try simp only [Act.put, List.setIfInBounds_toArray, List.set_cons_zero, List.set_cons_succ]
          refine wpAnyH_take (i := 5) (v := ?_) ((List.getElem?_toArray ..).trans rfl) (by kernel_rfl) (by kernel_rfl) (by kernel_rfl) (fun _ _ _ h => h) (Or.inl ⟨rfl, fun W hW => ?_⟩) hS ?_
          rotate_left
          · obtain ⟨hW0, hW1⟩ := hW; go_simp; try first | rfl | kernel_rfl
          try simp only [Act.put, List.setIfInBounds_toArray, List.set_cons_zero, List.set_cons_succ]
          refine wpAnyH_take (i := 6) (v := ?_) ((List.getElem?_toArray ..).trans rfl) (by kernel_rfl) (by kernel_rfl) (by kernel_rfl) (fun _ _ _ h => h) (Or.inl ⟨rfl, fun W hW => ?_⟩) hS ?_
          rotate_left
          · obtain ⟨hW0, hW1⟩ := hW; go_simp; try first | rfl | kernel_rfl
          try simp only [Act.put, List.setIfInBounds_toArray, List.set_cons_zero, List.set_cons_succ]
          refine wpAnyH_ready (rs := [7]) (by kernel_rfl) (by simp) (AllReadyH.cons ((List.getElem?_toArray ..).trans rfl) (fun K hK => ?_) AllReadyH.nil)
          go_simp
          clear hS
          have H := S.hnew 25 [.bool false, .slice none 0 0]
          replace S := S.alloc 25 [.bool false, .slice none 0 0] (w10.heap.size)
          replace N1 := N1.hold H
          replace nv1 := nv1.hold H
          replace nvp := nvp.hold H
          replace nl := nl.hold H
          replace nr := nr.hold H
          replace nn := nn.hold H
          replace nm := nm.hold H
          replace HH := HH.trans H
          clear H
          refine hK.out _ _ ⟨S.c 0 0 rfl rfl, S.c 0 1 rfl rfl⟩ (fun hS => ?_)
          generalize (w10.alloc (.cells #[.bool false, .slice none 0 0] 25)) = w11 at S N1 nv1 nvp nl nr nn nm HH hS ⊢
          clear hK K
          try simp only [Act.put, List.setIfInBounds_toArray, List.set_cons_zero, List.set_cons_succ]
          refine wpAnyH_ready (rs := [8]) (by kernel_rfl) (by simp) (AllReadyH.cons ((List.getElem?_toArray ..).trans rfl) (fun K hK => ?_) AllReadyH.nil)
          have c0 := S.c 4 0 rfl rfl
          have f0 := S.f 4 0 rfl
          have c1 := S.c 4 1 rfl rfl
          have f1 := S.f 4 1 rfl
          go_simp
          clear hS c0 f0 c1 f1
          have H := S.hset 4 0 (.bool (negB zl)) rfl rfl (by intro q n e; cases e)
          replace S := S.set 4 0 (.bool (negB zl)) rfl
          replace N1 := N1.hold H
          replace nv1 := nv1.hold H
          replace nvp := nvp.hold H
          replace nl := nl.hold H
          replace nr := nr.hold H
          replace nn := nn.hold H
          replace nm := nm.hold H
          replace HH := HH.trans H
          clear H
          have H := S.hset 4 1 (.slice pm lm Km) rfl rfl (by intro q n e; cases e)
          replace S := S.set 4 1 (.slice pm lm Km) rfl
          replace N1 := N1.hold H
          replace nv1 := nv1.hold H
          replace nvp := nvp.hold H
          replace nl := nl.hold H
          replace nr := nr.hold H
          replace nn := nn.hold H
          replace nm := nm.hold H
          replace HH := HH.trans H
          clear H
          refine hK.out _ _ ⟨S.c 0 0 rfl rfl, S.c 0 1 rfl rfl⟩ (fun hS => ?_)
          generalize ((w11.setCell ⟨w10.heap.size, 0, none⟩ (.bool (negB zl))).setCell ⟨w10.heap.size, 1, none⟩ (.slice pm lm Km)) = w12 at S N1 nv1 nvp nl nr nn nm HH hS ⊢
          clear hK K
          try simp only [Act.put, List.setIfInBounds_toArray, List.set_cons_zero, List.set_cons_succ]
          refine wpAnyH_ready (rs := [9]) (by kernel_rfl) (by simp) (AllReadyH.cons ((List.getElem?_toArray ..).trans rfl) (fun K hK => ?_) AllReadyH.nil)
          go_simp
          refine hK.out _ _ hS (fun hS => ?_)
          clear hK K
          try simp only [Act.put, List.setIfInBounds_toArray, List.set_cons_zero, List.set_cons_succ]
          refine wpAnyH_done (by kernel_rfl) ?_ _
          go_wp2_with fail
          go_meet
          case rel => exact ⟨w10.heap.size, pm, lm, Km, rfl, rfl, S, nm, HH⟩
        ·
          go_simp
          clear hS
          have H := S.hnew 25 [.bool false, .slice none 0 0]
          replace S := S.alloc 25 [.bool false, .slice none 0 0] (w9.heap.size)
          replace N1 := N1.hold H
          replace nv1 := nv1.hold H
          replace nvp := nvp.hold H
          replace nl := nl.hold H
          replace nr := nr.hold H
          replace nn := nn.hold H
          replace HH := HH.trans H
          clear H
          refine hK.out _ _ ⟨S.c 0 0 rfl rfl, S.c 0 1 rfl rfl⟩ (fun hS => ?_)
          generalize (w9.alloc (.cells #[.bool false, .slice none 0 0] 25)) = w13 at S N1 nv1 nvp nl nr nn HH hS ⊢
          clear hK K
          try simp only [Act.put, List.setIfInBounds_toArray, List.set_cons_zero, List.set_cons_succ]
          refine wpAnyH_ready (rs := [3]) (by kernel_rfl) (by simp) (AllReadyH.cons ((List.getElem?_toArray ..).trans rfl) (fun K hK => ?_) AllReadyH.nil)
          go_simp
          clear hS
          refine (S.call (wmul_to ⟨_, _, _, by rw [hz1.out], N1⟩ ⟨_, _, _, rfl, nn⟩ (nb_max M1.out (by decide)) (by rw [Int.natAbs_pow]; exact nb_max B2.out (by decide)) zl HZ.out.1 (nb_max BL2.out (by decide)))).mono ?_
          clear S
          rintro e w14 ⟨⟨_, rfl, pm, lm, Km, rfl, nm⟩, S, H⟩
          replace N1 := N1.hold H
          replace nv1 := nv1.hold H
          replace nvp := nvp.hold H
          replace nl := nl.hold H
          replace nr := nr.hold H
          replace nn := nn.hold H
          replace HH := HH.trans H
          clear H
          go_wp2_with fail
          refine hK.out _ _ ⟨S.c 0 0 rfl rfl, S.c 0 1 rfl rfl⟩ (fun hS => ?_)
          clear hK K
          try simp only [Act.put, List.setIfInBounds_toArray, List.set_cons_zero, List.set_cons_succ]
          refine wpAnyH_take (i := 4) (v := ?_) ((List.getElem?_toArray ..).trans rfl) (by kernel_rfl) (by kernel_rfl) (by kernel_rfl) (fun _ _ _ h => h) (Or.inl ⟨rfl, fun W hW => ?_⟩) hS ?_
          rotate_left
          · obtain ⟨hW0, hW1⟩ := hW; go_simp; try first | rfl | kernel_rfl
          try simp only [Act.put, List.setIfInBounds_toArray, List.set_cons_zero, List.set_cons_succ]
          refine wpAnyH_take (i := 5) (v := ?_) ((List.getElem?_toArray ..).trans rfl) (by kernel_rfl) (by kernel_rfl) (by kernel_rfl) (fun _ _ _ h => h) (Or.inl ⟨rfl, fun W hW => ?_⟩) hS ?_
          rotate_left
          · obtain ⟨hW0, hW1⟩ := hW; go_simp; try first | rfl | kernel_rfl
          try simp only [Act.put, List.setIfInBounds_toArray, List.set_cons_zero, List.set_cons_succ]
          refine wpAnyH_take (i := 6) (v := ?_) ((List.getElem?_toArray ..).trans rfl) (by kernel_rfl) (by kernel_rfl) (by kernel_rfl) (fun _ _ _ h => h) (Or.inl ⟨rfl, fun W hW => ?_⟩) hS ?_
          rotate_left
          · obtain ⟨hW0, hW1⟩ := hW; go_simp; try first | rfl | kernel_rfl
          try simp only [Act.put, List.setIfInBounds_toArray, List.set_cons_zero, List.set_cons_succ]
          refine wpAnyH_ready (rs := [8]) (by kernel_rfl) (by simp) (AllReadyH.cons ((List.getElem?_toArray ..).trans rfl) (fun K hK => ?_) AllReadyH.nil)
          have c0 := S.c 4 0 rfl rfl
          have f0 := S.f 4 0 rfl
          have c1 := S.c 4 1 rfl rfl
          have f1 := S.f 4 1 rfl
          go_simp
          clear hS c0 f0 c1 f1
          have H := S.hset 4 0 (.bool (negB zl)) rfl rfl (by intro q n e; cases e)
          replace S := S.set 4 0 (.bool (negB zl)) rfl
          replace N1 := N1.hold H
          replace nv1 := nv1.hold H
          replace nvp := nvp.hold H
          replace nl := nl.hold H
          replace nr := nr.hold H
          replace nn := nn.hold H
          replace nm := nm.hold H
          replace HH := HH.trans H
          clear H
          have H := S.hset 4 1 (.slice pm lm Km) rfl rfl (by intro q n e; cases e)
          replace S := S.set 4 1 (.slice pm lm Km) rfl
          replace N1 := N1.hold H
          replace nv1 := nv1.hold H
          replace nvp := nvp.hold H
          replace nl := nl.hold H
          replace nr := nr.hold H
          replace nn := nn.hold H
          replace nm := nm.hold H
          replace HH := HH.trans H
          clear H
          refine hK.out _ _ ⟨S.c 0 0 rfl rfl, S.c 0 1 rfl rfl⟩ (fun hS => ?_)
          generalize ((w14.setCell ⟨w9.heap.size, 0, none⟩ (.bool (negB zl))).setCell ⟨w9.heap.size, 1, none⟩ (.slice pm lm Km)) = w15 at S N1 nv1 nvp nl nr nn nm HH hS ⊢
          clear hK K
          try simp only [Act.put, List.setIfInBounds_toArray, List.set_cons_zero, List.set_cons_succ]
          refine wpAnyH_ready (rs := [9]) (by kernel_rfl) (by simp) (AllReadyH.cons ((List.getElem?_toArray ..).trans rfl) (fun K hK => ?_) AllReadyH.nil)
          go_simp
          refine hK.out _ _ hS (fun hS => ?_)
          clear hK K
          try simp only [Act.put, List.setIfInBounds_toArray, List.set_cons_zero, List.set_cons_succ]
          refine wpAnyH_done (by kernel_rfl) ?_ _
          go_wp2_with fail
          go_meet
          case rel => exact ⟨w9.heap.size, pm, lm, Km, rfl, rfl, S, nm, HH⟩
      ·
        go_simp
        clear hS
        have H := S.hnew 25 [.bool false, .slice none 0 0]
        replace S := S.alloc 25 [.bool false, .slice none 0 0] (w8.heap.size)
        replace N1 := N1.hold H
        replace nv1 := nv1.hold H
        replace nvp := nvp.hold H
        replace nl := nl.hold H
        replace nr := nr.hold H
        replace HH := HH.trans H
        clear H
        refine hK.out _ _ ⟨S.c 0 0 rfl rfl, S.c 0 1 rfl rfl⟩ (fun hS => ?_)
        generalize (w8.alloc (.cells #[.bool false, .slice none 0 0] 25)) = w16 at S N1 nv1 nvp nl nr HH hS ⊢
        clear hK K
        try simp only [Act.put, List.setIfInBounds_toArray, List.set_cons_zero, List.set_cons_succ]
        refine wpAnyH_ready (rs := [2]) (by kernel_rfl) (by simp) (AllReadyH.cons ((List.getElem?_toArray ..).trans rfl) (fun K hK => ?_) AllReadyH.nil)
        go_simp
        clear hS
        refine (S.call (wnat_any nvp (by rw [Nat.one_mul]; exact nb_max B2.out (by decide)) ((2 : Int) ^ k) (by simp))).mono ?_
        clear S
        rintro e w17 ⟨⟨_, rfl, pn, ln, Kn, rfl, nn⟩, S, H⟩
        replace N1 := N1.hold H
        replace nv1 := nv1.hold H
        replace nvp := nvp.hold H
        replace nl := nl.hold H
        replace nr := nr.hold H
        replace HH := HH.trans H
        clear H
        go_wp2_with fail
        refine hK.out _ _ ⟨S.c 0 0 rfl rfl, S.c 0 1 rfl rfl⟩ (fun hS => ?_)
        clear hK K
        try simp only [Act.put, List.setIfInBounds_toArray, List.set_cons_zero, List.set_cons_succ]
        refine wpAnyH_ready (rs := [3]) (by kernel_rfl) (by simp) (AllReadyH.cons ((List.getElem?_toArray ..).trans rfl) (fun K hK => ?_) AllReadyH.nil)
        go_simp
        clear hS
        refine (S.call (wmul_to ⟨_, _, _, by rw [hz1.out], N1⟩ ⟨_, _, _, rfl, nn⟩ (nb_max M1.out (by decide)) (by rw [Int.natAbs_pow]; exact nb_max B2.out (by decide)) zl HZ.out.1 (nb_max BL2.out (by decide)))).mono ?_
        clear S
        rintro e w18 ⟨⟨_, rfl, pm, lm, Km, rfl, nm⟩, S, H⟩
        replace N1 := N1.hold H
        replace nv1 := nv1.hold H
        replace nvp := nvp.hold H
        replace nl := nl.hold H
        replace nr := nr.hold H
        replace nn := nn.hold H
        replace HH := HH.trans H
        clear H
        go_wp2_with fail
        refine hK.out _ _ ⟨S.c 0 0 rfl rfl, S.c 0 1 rfl rfl⟩ (fun hS => ?_)
        clear hK K
        try simp only [Act.put, List.setIfInBounds_toArray, List.set_cons_zero, List.set_cons_succ]
        refine wpAnyH_take (i := 4) (v := ?_) ((List.getElem?_toArray ..).trans rfl) (by kernel_rfl) (by kernel_rfl) (by kernel_rfl) (fun _ _ _ h => h) (Or.inl ⟨rfl, fun W hW => ?_⟩) hS ?_
        rotate_left
        · obtain ⟨hW0, hW1⟩ := hW; go_simp; try first | rfl | kernel_rfl
        try simp only [Act.put, List.setIfInBounds_toArray, List.set_cons_zero, List.set_cons_succ]
        refine wpAnyH_take (i := 5) (v := ?_) ((List.getElem?_toArray ..).trans rfl) (by kernel_rfl) (by kernel_rfl) (by kernel_rfl) (fun _ _ _ h => h) (Or.inl ⟨rfl, fun W hW => ?_⟩) hS ?_
        rotate_left
        · obtain ⟨hW0, hW1⟩ := hW; go_simp; try first | rfl | kernel_rfl
        try simp only [Act.put, List.setIfInBounds_toArray, List.set_cons_zero, List.set_cons_succ]
        refine wpAnyH_take (i := 6) (v := ?_) ((List.getElem?_toArray ..).trans rfl) (by kernel_rfl) (by kernel_rfl) (by kernel_rfl) (fun _ _ _ h => h) (Or.inl ⟨rfl, fun W hW => ?_⟩) hS ?_
        rotate_left
        · obtain ⟨hW0, hW1⟩ := hW; go_simp; try first | rfl | kernel_rfl
        try simp only [Act.put, List.setIfInBounds_toArray, List.set_cons_zero, List.set_cons_succ]
        refine wpAnyH_ready (rs := [8]) (by kernel_rfl) (by simp) (AllReadyH.cons ((List.getElem?_toArray ..).trans rfl) (fun K hK => ?_) AllReadyH.nil)
        have c0 := S.c 4 0 rfl rfl
        have f0 := S.f 4 0 rfl
        have c1 := S.c 4 1 rfl rfl
        have f1 := S.f 4 1 rfl
        go_simp
        clear hS c0 f0 c1 f1
        have H := S.hset 4 0 (.bool (negB zl)) rfl rfl (by intro q n e; cases e)
        replace S := S.set 4 0 (.bool (negB zl)) rfl
        replace N1 := N1.hold H
        replace nv1 := nv1.hold H
        replace nvp := nvp.hold H
        replace nl := nl.hold H
        replace nr := nr.hold H
        replace nn := nn.hold H
        replace nm := nm.hold H
        replace HH := HH.trans H
        clear H
        have H := S.hset 4 1 (.slice pm lm Km) rfl rfl (by intro q n e; cases e)
        replace S := S.set 4 1 (.slice pm lm Km) rfl
        replace N1 := N1.hold H
        replace nv1 := nv1.hold H
        replace nvp := nvp.hold H
        replace nl := nl.hold H
        replace nr := nr.hold H
        replace nn := nn.hold H
        replace nm := nm.hold H
        replace HH := HH.trans H
        clear H
        refine hK.out _ _ ⟨S.c 0 0 rfl rfl, S.c 0 1 rfl rfl⟩ (fun hS => ?_)
        generalize ((w18.setCell ⟨w8.heap.size, 0, none⟩ (.bool (negB zl))).setCell ⟨w8.heap.size, 1, none⟩ (.slice pm lm Km)) = w19 at S N1 nv1 nvp nl nr nn nm HH hS ⊢
        clear hK K
        try simp only [Act.put, List.setIfInBounds_toArray, List.set_cons_zero, List.set_cons_succ]
        refine wpAnyH_ready (rs := [9]) (by kernel_rfl) (by simp) (AllReadyH.cons ((List.getElem?_toArray ..).trans rfl) (fun K hK => ?_) AllReadyH.nil)
        go_simp
        refine hK.out _ _ hS (fun hS => ?_)
        clear hK K
        try simp only [Act.put, List.setIfInBounds_toArray, List.set_cons_zero, List.set_cons_succ]
        refine wpAnyH_done (by kernel_rfl) ?_ _
        go_wp2_with fail
        go_meet
        case rel => exact ⟨w8.heap.size, pm, lm, Km, rfl, rfl, S, nm, HH⟩
    case rest =>
      obtain ⟨g11, pm, lm, Km, rfl, rfl, S, nm, HH⟩ := hcut
      obtain ⟨w20, rfl⟩ : ∃ W : World, W = wc := ⟨_, rfl⟩
      replace N1 := N1.hold HH
      replace nv1 := nv1.hold HH
      replace nvp := nvp.hold HH
      replace nl := nl.hold HH
      replace nr := nr.hold HH
      clear HH
      have c0_0 := S.c 0 0 rfl rfl
      have c0_1 := S.c 0 1 rfl rfl
      have c2_0 := S.c 2 0 rfl rfl
      have c2_1 := S.c 2 1 rfl rfl
      have c3_0 := S.c 3 0 rfl rfl
      have c3_1 := S.c 3 1 rfl rfl
      have c4_0 := S.c 4 0 rfl rfl
      have c4_1 := S.c 4 1 rfl rfl
      go_upto_region 9 with fail
      clear c0_0 c0_1 c2_0 c2_1 c3_0 c3_1 c4_0 c4_1
      go_cut [13, 14, 15] (fun s13 s14 s15 wx => ∃ g13 g14 pq lq Kq ps ls Ks, s13 = .pointer (some ⟨g13, 0, none⟩) ∧ s14 = .pointer (some ⟨g14, 0, none⟩) ∧ s15 = .int .i64 0 ∧ Sv w wx [(w.heap.size, 25, [.bool b1, .slice p1 l1 K1]), (w1.heap.size, 25, [.bool b1, .slice p1 l1 K1]), (w5.heap.size, 25, [.bool (negB zl), .slice pl ll Kl]), (w6.heap.size, 25, [.bool (negB zr), .slice pr lr Kr]), (g11, 25, [.bool (negB zl), .slice pm lm Km]), (g13, 25, [.bool (negB zr), .slice pq lq Kq]), (g14, 25, [.bool (negB zm), .slice ps ls Ks])] ∧ IsNat wx (.slice pq lq Kq) zr.natAbs ∧ Hold w20 wx)
      case first =>
        have HH := Hold.drew w20
        replace N1 := N1.hold HH
        replace nv1 := nv1.hold HH
        replace nvp := nvp.hold HH
        replace nl := nl.hold HH
        replace nr := nr.hold HH
        replace nm := nm.hold HH
        replace S := S.drew
        refine wp_region_held_drew (S := fun W => W.cell? ⟨w.heap.size, 0, none⟩ = some (.bool b1) ∧ W.cell? ⟨w.heap.size, 1, none⟩ = some (.slice p1 l1 K1)) (by kernel_rfl) ⟨S.c 0 0 rfl rfl, S.c 0 1 rfl rfl⟩ (fun hS => ?_)
        generalize w20.drew = w21 at S N1 nv1 nvp nl nr nm HH hS ⊢
        refine wpAnyH_take (i := 0) (v := ?_) ((List.getElem?_toArray ..).trans rfl) (by kernel_rfl) (by kernel_rfl) (by kernel_rfl) (fun _ _ _ h => h) (Or.inl ⟨rfl, fun W hW => ?_⟩) hS ?_
        rotate_left
        · obtain ⟨hW0, hW1⟩ := hW; go_simp; try first | rfl | kernel_rfl
        try simp only [Act.put, List.setIfInBounds_toArray, List.set_cons_zero, List.set_cons_succ]
        refine wpAnyH_take (i := 1) (v := ?_) ((List.getElem?_toArray ..).trans rfl) (by kernel_rfl) (by kernel_rfl) (by kernel_rfl) (fun _ _ _ h => h) (Or.inl ⟨rfl, fun W hW => ?_⟩) hS ?_
        rotate_left
        · obtain ⟨hW0, hW1⟩ := hW; go_simp; try first | rfl | kernel_rfl
        try simp only [Act.put, List.setIfInBounds_toArray, List.set_cons_zero, List.set_cons_succ]
        refine wpAnyH_ready (rs := [2, 8, 9]) (by kernel_rfl) (by simp) (AllReadyH.cons ((List.getElem?_toArray ..).trans rfl) (fun K hK => ?_) (AllReadyH.cons ((List.getElem?_toArray ..).trans rfl) (fun K hK => ?_) (AllReadyH.cons ((List.getElem?_toArray ..).trans rfl) (fun K hK => ?_) AllReadyH.nil)))
        ·
          go_simp
          clear hS
          refine (S.call (wnat_any nvp (by rw [Nat.one_mul]; exact nb_max B2.out (by decide)) ((2 : Int) ^ k) (by simp))).mono ?_
          clear S
          rintro e w22 ⟨⟨_, rfl, pn, ln, Kn, rfl, nn⟩, S, H⟩
          replace N1 := N1.hold H
          replace nv1 := nv1.hold H
          replace nvp := nvp.hold H
          replace nl := nl.hold H
          replace nr := nr.hold H
          replace nm := nm.hold H
          replace HH := HH.trans H
          clear H
          go_wp2_with fail
          refine hK.out _ _ ⟨S.c 0 0 rfl rfl, S.c 0 1 rfl rfl⟩ (fun hS => ?_)
          clear hK K
          try simp only [Act.put, List.setIfInBounds_toArray, List.set_cons_zero, List.set_cons_succ]
          refine wpAnyH_ready (rs := [3, 8, 9]) (by kernel_rfl) (by simp) (AllReadyH.cons ((List.getElem?_toArray ..).trans rfl) (fun K hK => ?_) (AllReadyH.cons ((List.getElem?_toArray ..).trans rfl) (fun K hK => ?_) (AllReadyH.cons ((List.getElem?_toArray ..).trans rfl) (fun K hK => ?_) AllReadyH.nil)))
          ·
            go_simp
            clear hS
            refine (S.call (wdiv_to ⟨_, _, _, by rw [hz1.out], N1⟩ ⟨_, _, _, rfl, nn⟩ (nb_max M1.out (by decide)) (by rw [Int.natAbs_pow]; exact nb_max B2.out (by decide)) zr zm (by have := Int.pow_pos (n := 2) (m := k) (by decide); omega) HZ.out.2.1 HZ.out.2.2.1)).mono ?_
            clear S
            rintro e w23 ⟨⟨_, _, rfl, ⟨pq, lq, Kq, rfl, nq⟩, ⟨ps, ls, Ks, rfl, ns⟩⟩, S, H⟩
            replace N1 := N1.hold H
            replace nv1 := nv1.hold H
            replace nvp := nvp.hold H
            replace nl := nl.hold H
            replace nr := nr.hold H
            replace nm := nm.hold H
            replace nn := nn.hold H
            replace HH := HH.trans H
            clear H
            go_wp2_with fail
            refine hK.out _ _ ⟨S.c 0 0 rfl rfl, S.c 0 1 rfl rfl⟩ (fun hS => ?_)
            clear hK K
            try simp only [Act.put, List.setIfInBounds_toArray, List.set_cons_zero, List.set_cons_succ]
            refine wpAnyH_take (i := 4) (v := ?_) ((List.getElem?_toArray ..).trans rfl) (by kernel_rfl) (by kernel_rfl) (by kernel_rfl) (fun _ _ _ h => h) (Or.inl ⟨rfl, fun W hW => ?_⟩) hS ?_
            rotate_left
            · obtain ⟨hW0, hW1⟩ := hW; go_simp; try first | rfl | kernel_rfl
            try simp only [Act.put, List.setIfInBounds_toArray, List.set_cons_zero, List.set_cons_succ]
            refine wpAnyH_take (i := 5) (v := ?_) ((List.getElem?_toArray ..).trans rfl) (by kernel_rfl) (by kernel_rfl) (by kernel_rfl) (fun _ _ _ h => h) (Or.inl ⟨rfl, fun W hW => ?_⟩) hS ?_
            rotate_left
            · obtain ⟨hW0, hW1⟩ := hW; go_simp; try first | rfl | kernel_rfl
            try simp only [Act.put, List.setIfInBounds_toArray, List.set_cons_zero, List.set_cons_succ]
            refine wpAnyH_take (i := 6) (v := ?_) ((List.getElem?_toArray ..).trans rfl) (by kernel_rfl) (by kernel_rfl) (by kernel_rfl) (fun _ _ _ h => h) (Or.inl ⟨rfl, fun W hW => ?_⟩) hS ?_
            rotate_left
            · obtain ⟨hW0, hW1⟩ := hW; go_simp; try first | rfl | kernel_rfl
            try simp only [Act.put, List.setIfInBounds_toArray, List.set_cons_zero, List.set_cons_succ]
            refine wpAnyH_take (i := 7) (v := ?_) ((List.getElem?_toArray ..).trans rfl) (by kernel_rfl) (by kernel_rfl) (by kernel_rfl) (fun _ _ _ h => h) (Or.inl ⟨rfl, fun W hW => ?_⟩) hS ?_
            rotate_left
            · obtain ⟨hW0, hW1⟩ := hW; go_simp; try first | rfl | kernel_rfl
            try simp only [Act.put, List.setIfInBounds_toArray, List.set_cons_zero, List.set_cons_succ]
            refine wpAnyH_ready (rs := [8, 9]) (by kernel_rfl) (by simp) (AllReadyH.cons ((List.getElem?_toArray ..).trans rfl) (fun K hK => ?_) (AllReadyH.cons ((List.getElem?_toArray ..).trans rfl) (fun K hK => ?_) AllReadyH.nil))
            ·
              go_simp
              clear hS
              have H := S.hnew 25 [.bool false, .slice none 0 0]
              replace S := S.alloc 25 [.bool false, .slice none 0 0] (w23.heap.size)
              replace N1 := N1.hold H
              replace nv1 := nv1.hold H
              replace nvp := nvp.hold H
              replace nl := nl.hold H
              replace nr := nr.hold H
              replace nm := nm.hold H
              replace nn := nn.hold H
              replace nq := nq.hold H
              replace HH := HH.trans H
              clear H
              refine hK.out _ _ ⟨S.c 0 0 rfl rfl, S.c 0 1 rfl rfl⟩ (fun hS => ?_)
              generalize (w23.alloc (.cells #[.bool false, .slice none 0 0] 25)) = w24 at S N1 nv1 nvp nl nr nm nn nq HH hS ⊢
              clear hK K
              try simp only [Act.put, List.setIfInBounds_toArray, List.set_cons_zero, List.set_cons_succ]
              refine wpAnyH_ready (rs := [9]) (by kernel_rfl) (by simp) (AllReadyH.cons ((List.getElem?_toArray ..).trans rfl) (fun K hK => ?_) AllReadyH.nil)
              go_simp
              clear hS
              have H := S.hnew 25 [.bool false, .slice none 0 0]
              replace S := S.alloc 25 [.bool false, .slice none 0 0] (w24.heap.size)
              replace N1 := N1.hold H
              replace nv1 := nv1.hold H
              replace nvp := nvp.hold H
              replace nl := nl.hold H
              replace nr := nr.hold H
              replace nm := nm.hold H
              replace nn := nn.hold H
              replace nq := nq.hold H
              replace HH := HH.trans H
              clear H
              refine hK.out _ _ ⟨S.c 0 0 rfl rfl, S.c 0 1 rfl rfl⟩ (fun hS => ?_)
              generalize (w24.alloc (.cells #[.bool false, .slice none 0 0] 25)) = w25 at S N1 nv1 nvp nl nr nm nn nq HH hS ⊢
              clear hK K
              try simp only [Act.put, List.setIfInBounds_toArray, List.set_cons_zero, List.set_cons_succ]
              refine wpAnyH_ready (rs := [10]) (by kernel_rfl) (by simp) (AllReadyH.cons ((List.getElem?_toArray ..).trans rfl) (fun K hK => ?_) AllReadyH.nil)
              have c0 := S.c 5 0 rfl rfl
              have f0 := S.f 5 0 rfl
              have c1 := S.c 5 1 rfl rfl
              have f1 := S.f 5 1 rfl
              go_simp
              clear hS c0 f0 c1 f1
              have H := S.hset 5 0 (.bool (negB zr)) rfl rfl (by intro q n e; cases e)
              replace S := S.set 5 0 (.bool (negB zr)) rfl
              replace N1 := N1.hold H
              replace nv1 := nv1.hold H
              replace nvp := nvp.hold H
              replace nl := nl.hold H
              replace nr := nr.hold H
              replace nm := nm.hold H
              replace nn := nn.hold H
              replace nq := nq.hold H
              replace HH := HH.trans H
              clear H
              have H := S.hset 5 1 (.slice pq lq Kq) rfl rfl (by intro q n e; cases e)
              replace S := S.set 5 1 (.slice pq lq Kq) rfl
              replace N1 := N1.hold H
              replace nv1 := nv1.hold H
              replace nvp := nvp.hold H
              replace nl := nl.hold H
              replace nr := nr.hold H
              replace nm := nm.hold H
              replace nn := nn.hold H
              replace nq := nq.hold H
              replace HH := HH.trans H
              clear H
              refine hK.out _ _ ⟨S.c 0 0 rfl rfl, S.c 0 1 rfl rfl⟩ (fun hS => ?_)
              generalize ((w25.setCell ⟨w23.heap.size, 0, none⟩ (.bool (negB zr))).setCell ⟨w23.heap.size, 1, none⟩ (.slice pq lq Kq)) = w26 at S N1 nv1 nvp nl nr nm nn nq HH hS ⊢
              clear hK K
              try simp only [Act.put, List.setIfInBounds_toArray, List.set_cons_zero, List.set_cons_succ]
              refine wpAnyH_ready (rs := [11]) (by kernel_rfl) (by simp) (AllReadyH.cons ((List.getElem?_toArray ..).trans rfl) (fun K hK => ?_) AllReadyH.nil)
              have c0 := S.c 6 0 rfl rfl
              have f0 := S.f 6 0 rfl
              have c1 := S.c 6 1 rfl rfl
              have f1 := S.f 6 1 rfl
              go_simp
              clear hS c0 f0 c1 f1
              have H := S.hset 6 0 (.bool (negB zm)) rfl rfl (by intro q n e; cases e)
              replace S := S.set 6 0 (.bool (negB zm)) rfl
              replace N1 := N1.hold H
              replace nv1 := nv1.hold H
              replace nvp := nvp.hold H
              replace nl := nl.hold H
              replace nr := nr.hold H
              replace nm := nm.hold H
              replace nn := nn.hold H
              replace nq := nq.hold H
              replace HH := HH.trans H
              clear H
              have H := S.hset 6 1 (.slice ps ls Ks) rfl rfl (by intro q n e; cases e)
              replace S := S.set 6 1 (.slice ps ls Ks) rfl
              replace N1 := N1.hold H
              replace nv1 := nv1.hold H
              replace nvp := nvp.hold H
              replace nl := nl.hold H
              replace nr := nr.hold H
              replace nm := nm.hold H
              replace nn := nn.hold H
              replace nq := nq.hold H
              replace HH := HH.trans H
              clear H
              refine hK.out _ _ ⟨S.c 0 0 rfl rfl, S.c 0 1 rfl rfl⟩ (fun hS => ?_)
              generalize ((w26.setCell ⟨w24.heap.size, 0, none⟩ (.bool (negB zm))).setCell ⟨w24.heap.size, 1, none⟩ (.slice ps ls Ks)) = w27 at S N1 nv1 nvp nl nr nm nn nq HH hS ⊢
              clear hK K
              try simp only [Act.put, List.setIfInBounds_toArray, List.set_cons_zero, List.set_cons_succ]
              refine wpAnyH_ready (rs := [12]) (by kernel_rfl) (by simp) (AllReadyH.cons ((List.getElem?_toArray ..).trans rfl) (fun K hK => ?_) AllReadyH.nil)
              go_simp
              refine hK.out _ _ hS (fun hS => ?_)
              clear hK K
              try simp only [Act.put, List.setIfInBounds_toArray, List.set_cons_zero, List.set_cons_succ]
              refine wpAnyH_done (by kernel_rfl) ?_ _
              go_wp2_with fail
              go_meet
              case rel => exact ⟨w23.heap.size, w24.heap.size, pq, lq, Kq, ps, ls, Ks, rfl, rfl, rfl, Sv.of S [0, 1, 2, 3, 4, 5, 6] rfl, nq, HH⟩
            ·
              go_simp
              clear hS
              have H := S.hnew 25 [.bool false, .slice none 0 0]
              replace S := S.alloc 25 [.bool false, .slice none 0 0] (w23.heap.size)
              replace N1 := N1.hold H
              replace nv1 := nv1.hold H
              replace nvp := nvp.hold H
              replace nl := nl.hold H
              replace nr := nr.hold H
              replace nm := nm.hold H
              replace nn := nn.hold H
              replace nq := nq.hold H
              replace HH := HH.trans H
              clear H
              refine hK.out _ _ ⟨S.c 0 0 rfl rfl, S.c 0 1 rfl rfl⟩ (fun hS => ?_)
              generalize (w23.alloc (.cells #[.bool false, .slice none 0 0] 25)) = w28 at S N1 nv1 nvp nl nr nm nn nq HH hS ⊢
              clear hK K
              try simp only [Act.put, List.setIfInBounds_toArray, List.set_cons_zero, List.set_cons_succ]
              refine wpAnyH_ready (rs := [8]) (by kernel_rfl) (by simp) (AllReadyH.cons ((List.getElem?_toArray ..).trans rfl) (fun K hK => ?_) AllReadyH.nil)
              go_simp
              clear hS
              have H := S.hnew 25 [.bool false, .slice none 0 0]
              replace S := S.alloc 25 [.bool false, .slice none 0 0] (w28.heap.size)
              replace N1 := N1.hold H
              replace nv1 := nv1.hold H
              replace nvp := nvp.hold H
              replace nl := nl.hold H
              replace nr := nr.hold H
              replace nm := nm.hold H
              replace nn := nn.hold H
              replace nq := nq.hold H
              replace HH := HH.trans H
              clear H
              refine hK.out _ _ ⟨S.c 0 0 rfl rfl, S.c 0 1 rfl rfl⟩ (fun hS => ?_)
              generalize (w28.alloc (.cells #[.bool false, .slice none 0 0] 25)) = w29 at S N1 nv1 nvp nl nr nm nn nq HH hS ⊢
              clear hK K
              try simp only [Act.put, List.setIfInBounds_toArray, List.set_cons_zero, List.set_cons_succ]
              refine wpAnyH_ready (rs := [10]) (by kernel_rfl) (by simp) (AllReadyH.cons ((List.getElem?_toArray ..).trans rfl) (fun K hK => ?_) AllReadyH.nil)
              have c0 := S.c 6 0 rfl rfl
              have f0 := S.f 6 0 rfl
              have c1 := S.c 6 1 rfl rfl
              have f1 := S.f 6 1 rfl
              go_simp
              clear hS c0 f0 c1 f1
              have H := S.hset 6 0 (.bool (negB zr)) rfl rfl (by intro q n e; cases e)
              replace S := S.set 6 0 (.bool (negB zr)) rfl
              replace N1 := N1.hold H
              replace nv1 := nv1.hold H
              replace nvp := nvp.hold H
              replace nl := nl.hold H
              replace nr := nr.hold H
              replace nm := nm.hold H
              replace nn := nn.hold H
              replace nq := nq.hold H
              replace HH := HH.trans H
              clear H
              have H := S.hset 6 1 (.slice pq lq Kq) rfl rfl (by intro q n e; cases e)
              replace S := S.set 6 1 (.slice pq lq Kq) rfl
              replace N1 := N1.hold H
              replace nv1 := nv1.hold H
              replace nvp := nvp.hold H
              replace nl := nl.hold H
              replace nr := nr.hold H
              replace nm := nm.hold H
              replace nn := nn.hold H
              replace nq := nq.hold H
              replace HH := HH.trans H
              clear H
              refine hK.out _ _ ⟨S.c 0 0 rfl rfl, S.c 0 1 rfl rfl⟩ (fun hS => ?_)
              generalize ((w29.setCell ⟨w28.heap.size, 0, none⟩ (.bool (negB zr))).setCell ⟨w28.heap.size, 1, none⟩ (.slice pq lq Kq)) = w30 at S N1 nv1 nvp nl nr nm nn nq HH hS ⊢
              clear hK K
              try simp only [Act.put, List.setIfInBounds_toArray, List.set_cons_zero, List.set_cons_succ]
              refine wpAnyH_ready (rs := [11]) (by kernel_rfl) (by simp) (AllReadyH.cons ((List.getElem?_toArray ..).trans rfl) (fun K hK => ?_) AllReadyH.nil)
              have c0 := S.c 5 0 rfl rfl
              have f0 := S.f 5 0 rfl
              have c1 := S.c 5 1 rfl rfl
              have f1 := S.f 5 1 rfl
              go_simp
              clear hS c0 f0 c1 f1
              have H := S.hset 5 0 (.bool (negB zm)) rfl rfl (by intro q n e; cases e)
              replace S := S.set 5 0 (.bool (negB zm)) rfl
              replace N1 := N1.hold H
              replace nv1 := nv1.hold H
              replace nvp := nvp.hold H
              replace nl := nl.hold H
              replace nr := nr.hold H
              replace nm := nm.hold H
              replace nn := nn.hold H
              replace nq := nq.hold H
              replace HH := HH.trans H
              clear H
              have H := S.hset 5 1 (.slice ps ls Ks) rfl rfl (by intro q n e; cases e)
              replace S := S.set 5 1 (.slice ps ls Ks) rfl
              replace N1 := N1.hold H
              replace nv1 := nv1.hold H
              replace nvp := nvp.hold H
              replace nl := nl.hold H
              replace nr := nr.hold H
              replace nm := nm.hold H
              replace nn := nn.hold H
              replace nq := nq.hold H
              replace HH := HH.trans H
              clear H
              refine hK.out _ _ ⟨S.c 0 0 rfl rfl, S.c 0 1 rfl rfl⟩ (fun hS => ?_)
              generalize ((w30.setCell ⟨w23.heap.size, 0, none⟩ (.bool (negB zm))).setCell ⟨w23.heap.size, 1, none⟩ (.slice ps ls Ks)) = w31 at S N1 nv1 nvp nl nr nm nn nq HH hS ⊢
              clear hK K
              try simp only [Act.put, List.setIfInBounds_toArray, List.set_cons_zero, List.set_cons_succ]
              refine wpAnyH_ready (rs := [12]) (by kernel_rfl) (by simp) (AllReadyH.cons ((List.getElem?_toArray ..).trans rfl) (fun K hK => ?_) AllReadyH.nil)
              go_simp
              refine hK.out _ _ hS (fun hS => ?_)
              clear hK K
              try simp only [Act.put, List.setIfInBounds_toArray, List.set_cons_zero, List.set_cons_succ]
              refine wpAnyH_done (by kernel_rfl) ?_ _
              go_wp2_with fail
              go_meet
              case rel => exact ⟨w28.heap.size, w23.heap.size, pq, lq, Kq, ps, ls, Ks, rfl, rfl, rfl, Sv.of S [0, 1, 2, 3, 4, 6, 5] rfl, nq, HH⟩
          ·
            go_simp
            clear hS
            have H := S.hnew 25 [.bool false, .slice none 0 0]
            replace S := S.alloc 25 [.bool false, .slice none 0 0] (w22.heap.size)
            replace N1 := N1.hold H
            replace nv1 := nv1.hold H
            replace nvp := nvp.hold H
            replace nl := nl.hold H
            replace nr := nr.hold H
            replace nm := nm.hold H
            replace nn := nn.hold H
            replace HH := HH.trans H
            clear H
            refine hK.out _ _ ⟨S.c 0 0 rfl rfl, S.c 0 1 rfl rfl⟩ (fun hS => ?_)
            generalize (w22.alloc (.cells #[.bool false, .slice none 0 0] 25)) = w32 at S N1 nv1 nvp nl nr nm nn HH hS ⊢
            clear hK K
            try simp only [Act.put, List.setIfInBounds_toArray, List.set_cons_zero, List.set_cons_succ]
            refine wpAnyH_ready (rs := [3, 9]) (by kernel_rfl) (by simp) (AllReadyH.cons ((List.getElem?_toArray ..).trans rfl) (fun K hK => ?_) (AllReadyH.cons ((List.getElem?_toArray ..).trans rfl) (fun K hK => ?_) AllReadyH.nil))
            ·
              go_simp
              clear hS
              refine (S.call (wdiv_to ⟨_, _, _, by rw [hz1.out], N1⟩ ⟨_, _, _, rfl, nn⟩ (nb_max M1.out (by decide)) (by rw [Int.natAbs_pow]; exact nb_max B2.out (by decide)) zr zm (by have := Int.pow_pos (n := 2) (m := k) (by decide); omega) HZ.out.2.1 HZ.out.2.2.1)).mono ?_
              clear S
              rintro e w33 ⟨⟨_, _, rfl, ⟨pq, lq, Kq, rfl, nq⟩, ⟨ps, ls, Ks, rfl, ns⟩⟩, S, H⟩
              replace N1 := N1.hold H
              replace nv1 := nv1.hold H
              replace nvp := nvp.hold H
              replace nl := nl.hold H
              replace nr := nr.hold H
              replace nm := nm.hold H
              replace nn := nn.hold H
              replace HH := HH.trans H
              clear H
              go_wp2_with fail
              refine hK.out _ _ ⟨S.c 0 0 rfl rfl, S.c 0 1 rfl rfl⟩ (fun hS => ?_)
              clear hK K
              try simp only [Act.put, List.setIfInBounds_toArray, List.set_cons_zero, List.set_cons_succ]
              refine wpAnyH_take (i := 4) (v := ?_) ((List.getElem?_toArray ..).trans rfl) (by kernel_rfl) (by kernel_rfl) (by kernel_rfl) (fun _ _ _ h => h) (Or.inl ⟨rfl, fun W hW => ?_⟩) hS ?_
              rotate_left
              · obtain ⟨hW0, hW1⟩ := hW; go_simp; try first | rfl | kernel_rfl
              try simp only [Act.put, List.setIfInBounds_toArray, List.set_cons_zero, List.set_cons_succ]
              refine wpAnyH_take (i := 5) (v := ?_) ((List.getElem?_toArray ..).trans rfl) (by kernel_rfl) (by kernel_rfl) (by kernel_rfl) (fun _ _ _ h => h) (Or.inl ⟨rfl, fun W hW => ?_⟩) hS ?_
              rotate_left
              · obtain ⟨hW0, hW1⟩ := hW; go_simp; try first | rfl | kernel_rfl
              try simp only [Act.put, List.setIfInBounds_toArray, List.set_cons_zero, List.set_cons_succ]
              refine wpAnyH_take (i := 6) (v := ?_) ((List.getElem?_toArray ..).trans rfl) (by kernel_rfl) (by kernel_rfl) (by kernel_rfl) (fun _ _ _ h => h) (Or.inl ⟨rfl, fun W hW => ?_⟩) hS ?_
              rotate_left
              · obtain ⟨hW0, hW1⟩ := hW; go_simp; try first | rfl | kernel_rfl
              try simp only [Act.put, List.setIfInBounds_toArray, List.set_cons_zero, List.set_cons_succ]
              refine wpAnyH_take (i := 7) (v := ?_) ((List.getElem?_toArray ..).trans rfl) (by kernel_rfl) (by kernel_rfl) (by kernel_rfl) (fun _ _ _ h => h) (Or.inl ⟨rfl, fun W hW => ?_⟩) hS ?_
              rotate_left
              · obtain ⟨hW0, hW1⟩ := hW; go_simp; try first | rfl | kernel_rfl
              try simp only [Act.put, List.setIfInBounds_toArray, List.set_cons_zero, List.set_cons_succ]
              refine wpAnyH_ready (rs := [9]) (by kernel_rfl) (by simp) (AllReadyH.cons ((List.getElem?_toArray ..).trans rfl) (fun K hK => ?_) AllReadyH.nil)
              go_simp
              clear hS
              have H := S.hnew 25 [.bool false, .slice none 0 0]
              replace S := S.alloc 25 [.bool false, .slice none 0 0] (w33.heap.size)
              replace N1 := N1.hold H
              replace nv1 := nv1.hold H
              replace nvp := nvp.hold H
              replace nl := nl.hold H
              replace nr := nr.hold H
              replace nm := nm.hold H
              replace nn := nn.hold H
              replace nq := nq.hold H
              replace HH := HH.trans H
              clear H
              refine hK.out _ _ ⟨S.c 0 0 rfl rfl, S.c 0 1 rfl rfl⟩ (fun hS => ?_)
              generalize (w33.alloc (.cells #[.bool false, .slice none 0 0] 25)) = w34 at S N1 nv1 nvp nl nr nm nn nq HH hS ⊢
              clear hK K
              try simp only [Act.put, List.setIfInBounds_toArray, List.set_cons_zero, List.set_cons_succ]
              refine wpAnyH_ready (rs := [10]) (by kernel_rfl) (by simp) (AllReadyH.cons ((List.getElem?_toArray ..).trans rfl) (fun K hK => ?_) AllReadyH.nil)
              have c0 := S.c 5 0 rfl rfl
              have f0 := S.f 5 0 rfl
              have c1 := S.c 5 1 rfl rfl
              have f1 := S.f 5 1 rfl
              go_simp
              clear hS c0 f0 c1 f1
              have H := S.hset 5 0 (.bool (negB zr)) rfl rfl (by intro q n e; cases e)
              replace S := S.set 5 0 (.bool (negB zr)) rfl
              replace N1 := N1.hold H
              replace nv1 := nv1.hold H
              replace nvp := nvp.hold H
              replace nl := nl.hold H
              replace nr := nr.hold H
              replace nm := nm.hold H
              replace nn := nn.hold H
              replace nq := nq.hold H
              replace HH := HH.trans H
              clear H
              have H := S.hset 5 1 (.slice pq lq Kq) rfl rfl (by intro q n e; cases e)
              replace S := S.set 5 1 (.slice pq lq Kq) rfl
              replace N1 := N1.hold H
              replace nv1 := nv1.hold H
              replace nvp := nvp.hold H
              replace nl := nl.hold H
              replace nr := nr.hold H
              replace nm := nm.hold H
              replace nn := nn.hold H
              replace nq := nq.hold H
              replace HH := HH.trans H
              clear H
              refine hK.out _ _ ⟨S.c 0 0 rfl rfl, S.c 0 1 rfl rfl⟩ (fun hS => ?_)
              generalize ((w34.setCell ⟨w22.heap.size, 0, none⟩ (.bool (negB zr))).setCell ⟨w22.heap.size, 1, none⟩ (.slice pq lq Kq)) = w35 at S N1 nv1 nvp nl nr nm nn nq HH hS ⊢
              clear hK K
              try simp only [Act.put, List.setIfInBounds_toArray, List.set_cons_zero, List.set_cons_succ]
              refine wpAnyH_ready (rs := [11]) (by kernel_rfl) (by simp) (AllReadyH.cons ((List.getElem?_toArray ..).trans rfl) (fun K hK => ?_) AllReadyH.nil)
              have c0 := S.c 6 0 rfl rfl
              have f0 := S.f 6 0 rfl
              have c1 := S.c 6 1 rfl rfl
              have f1 := S.f 6 1 rfl
              go_simp
              clear hS c0 f0 c1 f1
              have H := S.hset 6 0 (.bool (negB zm)) rfl rfl (by intro q n e; cases e)
              replace S := S.set 6 0 (.bool (negB zm)) rfl
              replace N1 := N1.hold H
              replace nv1 := nv1.hold H
              replace nvp := nvp.hold H
              replace nl := nl.hold H
              replace nr := nr.hold H
              replace nm := nm.hold H
              replace nn := nn.hold H
              replace nq := nq.hold H
              replace HH := HH.trans H
              clear H
              have H := S.hset 6 1 (.slice ps ls Ks) rfl rfl (by intro q n e; cases e)
              replace S := S.set 6 1 (.slice ps ls Ks) rfl
              replace N1 := N1.hold H
              replace nv1 := nv1.hold H
              replace nvp := nvp.hold H
              replace nl := nl.hold H
              replace nr := nr.hold H
              replace nm := nm.hold H
              replace nn := nn.hold H
              replace nq := nq.hold H
              replace HH := HH.trans H
              clear H
              refine hK.out _ _ ⟨S.c 0 0 rfl rfl, S.c 0 1 rfl rfl⟩ (fun hS => ?_)
              generalize ((w35.setCell ⟨w33.heap.size, 0, none⟩ (.bool (negB zm))).setCell ⟨w33.heap.size, 1, none⟩ (.slice ps ls Ks)) = w36 at S N1 nv1 nvp nl nr nm nn nq HH hS ⊢
              clear hK K
              try simp only [Act.put, List.setIfInBounds_toArray, List.set_cons_zero, List.set_cons_succ]
              refine wpAnyH_ready (rs := [12]) (by kernel_rfl) (by simp) (AllReadyH.cons ((List.getElem?_toArray ..).trans rfl) (fun K hK => ?_) AllReadyH.nil)
              go_simp
              refine hK.out _ _ hS (fun hS => ?_)
              clear hK K
              try simp only [Act.put, List.setIfInBounds_toArray, List.set_cons_zero, List.set_cons_succ]
              refine wpAnyH_done (by kernel_rfl) ?_ _
              go_wp2_with fail
              go_meet
              case rel => exact ⟨w22.heap.size, w33.heap.size, pq, lq, Kq, ps, ls, Ks, rfl, rfl, rfl, Sv.of S [0, 1, 2, 3, 4, 5, 6] rfl, nq, HH⟩
            ·
              go_simp
              clear hS
              have H := S.hnew 25 [.bool false, .slice none 0 0]
              replace S := S.alloc 25 [.bool false, .slice none 0 0] (w32.heap.size)
              replace N1 := N1.hold H
              replace nv1 := nv1.hold H
              replace nvp := nvp.hold H
              replace nl := nl.hold H
              replace nr := nr.hold H
              replace nm := nm.hold H
              replace nn := nn.hold H
              replace HH := HH.trans H
              clear H
              refine hK.out _ _ ⟨S.c 0 0 rfl rfl, S.c 0 1 rfl rfl⟩ (fun hS => ?_)
              generalize (w32.alloc (.cells #[.bool false, .slice none 0 0] 25)) = w37 at S N1 nv1 nvp nl nr nm nn HH hS ⊢
              clear hK K
              try simp only [Act.put, List.setIfInBounds_toArray, List.set_cons_zero, List.set_cons_succ]
              refine wpAnyH_ready (rs := [3]) (by kernel_rfl) (by simp) (AllReadyH.cons ((List.getElem?_toArray ..).trans rfl) (fun K hK => ?_) AllReadyH.nil)
              go_simp
              clear hS
              refine (S.call (wdiv_to ⟨_, _, _, by rw [hz1.out], N1⟩ ⟨_, _, _, rfl, nn⟩ (nb_max M1.out (by decide)) (by rw [Int.natAbs_pow]; exact nb_max B2.out (by decide)) zr zm (by have := Int.pow_pos (n := 2) (m := k) (by decide); omega) HZ.out.2.1 HZ.out.2.2.1)).mono ?_
              clear S
              rintro e w38 ⟨⟨_, _, rfl, ⟨pq, lq, Kq, rfl, nq⟩, ⟨ps, ls, Ks, rfl, ns⟩⟩, S, H⟩
              replace N1 := N1.hold H
              replace nv1 := nv1.hold H
              replace nvp := nvp.hold H
              replace nl := nl.hold H
              replace nr := nr.hold H
              replace nm := nm.hold H
              replace nn := nn.hold H
              replace HH := HH.trans H
              clear H
              go_wp2_with fail
              refine hK.out _ _ ⟨S.c 0 0 rfl rfl, S.c 0 1 rfl rfl⟩ (fun hS => ?_)
              clear hK K
              try simp only [Act.put, List.setIfInBounds_toArray, List.set_cons_zero, List.set_cons_succ]
              refine wpAnyH_take (i := 4) (v := ?_) ((List.getElem?_toArray ..).trans rfl) (by kernel_rfl) (by kernel_rfl) (by kernel_rfl) (fun _ _ _ h => h) (Or.inl ⟨rfl, fun W hW => ?_⟩) hS ?_
              rotate_left
              · obtain ⟨hW0, hW1⟩ := hW; go_simp; try first | rfl | kernel_rfl
              try simp only [Act.put, List.setIfInBounds_toArray, List.set_cons_zero, List.set_cons_succ]
              refine wpAnyH_take (i := 5) (v := ?_) ((List.getElem?_toArray ..).trans rfl) (by kernel_rfl) (by kernel_rfl) (by kernel_rfl) (fun _ _ _ h => h) (Or.inl ⟨rfl, fun W hW => ?_⟩) hS ?_
              rotate_left
              · obtain ⟨hW0, hW1⟩ := hW; go_simp; try first | rfl | kernel_rfl
              try simp only [Act.put, List.setIfInBounds_toArray, List.set_cons_zero, List.set_cons_succ]
              refine wpAnyH_take (i := 6) (v := ?_) ((List.getElem?_toArray ..).trans rfl) (by kernel_rfl) (by kernel_rfl) (by kernel_rfl) (fun _ _ _ h => h) (Or.inl ⟨rfl, fun W hW => ?_⟩) hS ?_
              rotate_left
              · obtain ⟨hW0, hW1⟩ := hW; go_simp; try first | rfl | kernel_rfl
              try simp only [Act.put, List.setIfInBounds_toArray, List.set_cons_zero, List.set_cons_succ]
              refine wpAnyH_take (i := 7) (v := ?_) ((List.getElem?_toArray ..).trans rfl) (by kernel_rfl) (by kernel_rfl) (by kernel_rfl) (fun _ _ _ h => h) (Or.inl ⟨rfl, fun W hW => ?_⟩) hS ?_
              rotate_left
              · obtain ⟨hW0, hW1⟩ := hW; go_simp; try first | rfl | kernel_rfl
              try simp only [Act.put, List.setIfInBounds_toArray, List.set_cons_zero, List.set_cons_succ]
              refine wpAnyH_ready (rs := [10]) (by kernel_rfl) (by simp) (AllReadyH.cons ((List.getElem?_toArray ..).trans rfl) (fun K hK => ?_) AllReadyH.nil)
              have c0 := S.c 5 0 rfl rfl
              have f0 := S.f 5 0 rfl
              have c1 := S.c 5 1 rfl rfl
              have f1 := S.f 5 1 rfl
              go_simp
              clear hS c0 f0 c1 f1
              have H := S.hset 5 0 (.bool (negB zr)) rfl rfl (by intro q n e; cases e)
              replace S := S.set 5 0 (.bool (negB zr)) rfl
              replace N1 := N1.hold H
              replace nv1 := nv1.hold H
              replace nvp := nvp.hold H
              replace nl := nl.hold H
              replace nr := nr.hold H
              replace nm := nm.hold H
              replace nn := nn.hold H
              replace nq := nq.hold H
              replace HH := HH.trans H
              clear H
              have H := S.hset 5 1 (.slice pq lq Kq) rfl rfl (by intro q n e; cases e)
              replace S := S.set 5 1 (.slice pq lq Kq) rfl
              replace N1 := N1.hold H
              replace nv1 := nv1.hold H
              replace nvp := nvp.hold H
              replace nl := nl.hold H
              replace nr := nr.hold H
              replace nm := nm.hold H
              replace nn := nn.hold H
              replace nq := nq.hold H
              replace HH := HH.trans H
              clear H
              refine hK.out _ _ ⟨S.c 0 0 rfl rfl, S.c 0 1 rfl rfl⟩ (fun hS => ?_)
              generalize ((w38.setCell ⟨w22.heap.size, 0, none⟩ (.bool (negB zr))).setCell ⟨w22.heap.size, 1, none⟩ (.slice pq lq Kq)) = w39 at S N1 nv1 nvp nl nr nm nn nq HH hS ⊢
              clear hK K
              try simp only [Act.put, List.setIfInBounds_toArray, List.set_cons_zero, List.set_cons_succ]
              refine wpAnyH_ready (rs := [11]) (by kernel_rfl) (by simp) (AllReadyH.cons ((List.getElem?_toArray ..).trans rfl) (fun K hK => ?_) AllReadyH.nil)
              have c0 := S.c 6 0 rfl rfl
              have f0 := S.f 6 0 rfl
              have c1 := S.c 6 1 rfl rfl
              have f1 := S.f 6 1 rfl
              go_simp
              clear hS c0 f0 c1 f1
              have H := S.hset 6 0 (.bool (negB zm)) rfl rfl (by intro q n e; cases e)
              replace S := S.set 6 0 (.bool (negB zm)) rfl
              replace N1 := N1.hold H
              replace nv1 := nv1.hold H
              replace nvp := nvp.hold H
              replace nl := nl.hold H
              replace nr := nr.hold H
              replace nm := nm.hold H
              replace nn := nn.hold H
              replace nq := nq.hold H
              replace HH := HH.trans H
              clear H
              have H := S.hset 6 1 (.slice ps ls Ks) rfl rfl (by intro q n e; cases e)
              replace S := S.set 6 1 (.slice ps ls Ks) rfl
              replace N1 := N1.hold H
              replace nv1 := nv1.hold H
              replace nvp := nvp.hold H
              replace nl := nl.hold H
              replace nr := nr.hold H
              replace nm := nm.hold H
              replace nn := nn.hold H
              replace nq := nq.hold H
              replace HH := HH.trans H
              clear H
              refine hK.out _ _ ⟨S.c 0 0 rfl rfl, S.c 0 1 rfl rfl⟩ (fun hS => ?_)
              generalize ((w39.setCell ⟨w32.heap.size, 0, none⟩ (.bool (negB zm))).setCell ⟨w32.heap.size, 1, none⟩ (.slice ps ls Ks)) = w40 at S N1 nv1 nvp nl nr nm nn nq HH hS ⊢
              clear hK K
              try simp only [Act.put, List.setIfInBounds_toArray, List.set_cons_zero, List.set_cons_succ]
              refine wpAnyH_ready (rs := [12]) (by kernel_rfl) (by simp) (AllReadyH.cons ((List.getElem?_toArray ..).trans rfl) (fun K hK => ?_) AllReadyH.nil)
              go_simp
              refine hK.out _ _ hS (fun hS => ?_)
              clear hK K
              try simp only [Act.put, List.setIfInBounds_toArray, List.set_cons_zero, List.set_cons_succ]
              refine wpAnyH_done (by kernel_rfl) ?_ _
              go_wp2_with fail
              go_meet
              case rel => exact ⟨w22.heap.size, w32.heap.size, pq, lq, Kq, ps, ls, Ks, rfl, rfl, rfl, Sv.of S [0, 1, 2, 3, 4, 5, 6] rfl, nq, HH⟩
          ·
            go_simp
            clear hS
            have H := S.hnew 25 [.bool false, .slice none 0 0]
            replace S := S.alloc 25 [.bool false, .slice none 0 0] (w22.heap.size)
            replace N1 := N1.hold H
            replace nv1 := nv1.hold H
            replace nvp := nvp.hold H
            replace nl := nl.hold H
            replace nr := nr.hold H
            replace nm := nm.hold H
            replace nn := nn.hold H
            replace HH := HH.trans H
            clear H
            refine hK.out _ _ ⟨S.c 0 0 rfl rfl, S.c 0 1 rfl rfl⟩ (fun hS => ?_)
            generalize (w22.alloc (.cells #[.bool false, .slice none 0 0] 25)) = w41 at S N1 nv1 nvp nl nr nm nn HH hS ⊢
            clear hK K
            try simp only [Act.put, List.setIfInBounds_toArray, List.set_cons_zero, List.set_cons_succ]
            refine wpAnyH_ready (rs := [3, 8]) (by kernel_rfl) (by simp) (AllReadyH.cons ((List.getElem?_toArray ..).trans rfl) (fun K hK => ?_) (AllReadyH.cons ((List.getElem?_toArray ..).trans rfl) (fun K hK => ?_) AllReadyH.nil))
            ·
              go_simp
              clear hS
              refine (S.call (wdiv_to ⟨_, _, _, by rw [hz1.out], N1⟩ ⟨_, _, _, rfl, nn⟩ (nb_max M1.out (by decide)) (by rw [Int.natAbs_pow]; exact nb_max B2.out (by decide)) zr zm (by have := Int.pow_pos (n := 2) (m := k) (by decide); omega) HZ.out.2.1 HZ.out.2.2.1)).mono ?_
              clear S
              rintro e w42 ⟨⟨_, _, rfl, ⟨pq, lq, Kq, rfl, nq⟩, ⟨ps, ls, Ks, rfl, ns⟩⟩, S, H⟩
              replace N1 := N1.hold H
              replace nv1 := nv1.hold H
              replace nvp := nvp.hold H
              replace nl := nl.hold H
              replace nr := nr.hold H
              replace nm := nm.hold H
              replace nn := nn.hold H
              replace HH := HH.trans H
              clear H
              go_wp2_with fail
              refine hK.out _ _ ⟨S.c 0 0 rfl rfl, S.c 0 1 rfl rfl⟩ (fun hS => ?_)
              clear hK K
              try simp only [Act.put, List.setIfInBounds_toArray, List.set_cons_zero, List.set_cons_succ]
              refine wpAnyH_take (i := 4) (v := ?_) ((List.getElem?_toArray ..).trans rfl) (by kernel_rfl) (by kernel_rfl) (by kernel_rfl) (fun _ _ _ h => h) (Or.inl ⟨rfl, fun W hW => ?_⟩) hS ?_
              rotate_left
              · obtain ⟨hW0, hW1⟩ := hW; go_simp; try first | rfl | kernel_rfl
              try simp only [Act.put, List.setIfInBounds_toArray, List.set_cons_zero, List.set_cons_succ]
              refine wpAnyH_take (i := 5) (v := ?_) ((List.getElem?_toArray ..).trans rfl) (by kernel_rfl) (by kernel_rfl) (by kernel_rfl) (fun _ _ _ h => h) (Or.inl ⟨rfl, fun W hW => ?_⟩) hS ?_
              rotate_left
              · obtain ⟨hW0, hW1⟩ := hW; go_simp; try first | rfl | kernel_rfl
              try simp only [Act.put, List.setIfInBounds_toArray, List.set_cons_zero, List.set_cons_succ]
              refine wpAnyH_take (i := 6) (v := ?_) ((List.getElem?_toArray ..).trans rfl) (by kernel_rfl) (by kernel_rfl) (by kernel_rfl) (fun _ _ _ h => h) (Or.inl ⟨rfl, fun W hW => ?_⟩) hS ?_
              rotate_left
              · obtain ⟨hW0, hW1⟩ := hW; go_simp; try first | rfl | kernel_rfl
              try simp only [Act.put, List.setIfInBounds_toArray, List.set_cons_zero, List.set_cons_succ]
              refine wpAnyH_take (i := 7) (v := ?_) ((List.getElem?_toArray ..).trans rfl) (by kernel_rfl) (by kernel_rfl) (by kernel_rfl) (fun _ _ _ h => h) (Or.inl ⟨rfl, fun W hW => ?_⟩) hS ?_
              rotate_left
              · obtain ⟨hW0, hW1⟩ := hW; go_simp; try first | rfl | kernel_rfl
              try simp only [Act.put, List.setIfInBounds_toArray, List.set_cons_zero, List.set_cons_succ]
              refine wpAnyH_ready (rs := [8]) (by kernel_rfl) (by simp) (AllReadyH.cons ((List.getElem?_toArray ..).trans rfl) (fun K hK => ?_) AllReadyH.nil)
              go_simp
              clear hS
              have H := S.hnew 25 [.bool false, .slice none 0 0]
              replace S := S.alloc 25 [.bool false, .slice none 0 0] (w42.heap.size)
              replace N1 := N1.hold H
              replace nv1 := nv1.hold H
              replace nvp := nvp.hold H
              replace nl := nl.hold H
              replace nr := nr.hold H
              replace nm := nm.hold H
              replace nn := nn.hold H
              replace nq := nq.hold H
              replace HH := HH.trans H
              clear H
              refine hK.out _ _ ⟨S.c 0 0 rfl rfl, S.c 0 1 rfl rfl⟩ (fun hS => ?_)
              generalize (w42.alloc (.cells #[.bool false, .slice none 0 0] 25)) = w43 at S N1 nv1 nvp nl nr nm nn nq HH hS ⊢
              clear hK K
              try simp only [Act.put, List.setIfInBounds_toArray, List.set_cons_zero, List.set_cons_succ]
              refine wpAnyH_ready (rs := [10]) (by kernel_rfl) (by simp) (AllReadyH.cons ((List.getElem?_toArray ..).trans rfl) (fun K hK => ?_) AllReadyH.nil)
              have c0 := S.c 6 0 rfl rfl
              have f0 := S.f 6 0 rfl
              have c1 := S.c 6 1 rfl rfl
              have f1 := S.f 6 1 rfl
              go_simp
              clear hS c0 f0 c1 f1
              have H := S.hset 6 0 (.bool (negB zr)) rfl rfl (by intro q n e; cases e)
              replace S := S.set 6 0 (.bool (negB zr)) rfl
              replace N1 := N1.hold H
              replace nv1 := nv1.hold H
              replace nvp := nvp.hold H
              replace nl := nl.hold H
              replace nr := nr.hold H
              replace nm := nm.hold H
              replace nn := nn.hold H
              replace nq := nq.hold H
              replace HH := HH.trans H
              clear H
              have H := S.hset 6 1 (.slice pq lq Kq) rfl rfl (by intro q n e; cases e)
              replace S := S.set 6 1 (.slice pq lq Kq) rfl
              replace N1 := N1.hold H
              replace nv1 := nv1.hold H
              replace nvp := nvp.hold H
              replace nl := nl.hold H
              replace nr := nr.hold H
              replace nm := nm.hold H
              replace nn := nn.hold H
              replace nq := nq.hold H
              replace HH := HH.trans H
              clear H
              refine hK.out _ _ ⟨S.c 0 0 rfl rfl, S.c 0 1 rfl rfl⟩ (fun hS => ?_)
              generalize ((w43.setCell ⟨w42.heap.size, 0, none⟩ (.bool (negB zr))).setCell ⟨w42.heap.size, 1, none⟩ (.slice pq lq Kq)) = w44 at S N1 nv1 nvp nl nr nm nn nq HH hS ⊢
              clear hK K
              try simp only [Act.put, List.setIfInBounds_toArray, List.set_cons_zero, List.set_cons_succ]
              refine wpAnyH_ready (rs := [11]) (by kernel_rfl) (by simp) (AllReadyH.cons ((List.getElem?_toArray ..).trans rfl) (fun K hK => ?_) AllReadyH.nil)
              have c0 := S.c 5 0 rfl rfl
              have f0 := S.f 5 0 rfl
              have c1 := S.c 5 1 rfl rfl
              have f1 := S.f 5 1 rfl
              go_simp
              clear hS c0 f0 c1 f1
              have H := S.hset 5 0 (.bool (negB zm)) rfl rfl (by intro q n e; cases e)
              replace S := S.set 5 0 (.bool (negB zm)) rfl
              replace N1 := N1.hold H
              replace nv1 := nv1.hold H
              replace nvp := nvp.hold H
              replace nl := nl.hold H
              replace nr := nr.hold H
              replace nm := nm.hold H
              replace nn := nn.hold H
              replace nq := nq.hold H
              replace HH := HH.trans H
              clear H
              have H := S.hset 5 1 (.slice ps ls Ks) rfl rfl (by intro q n e; cases e)
              replace S := S.set 5 1 (.slice ps ls Ks) rfl
              replace N1 := N1.hold H
              replace nv1 := nv1.hold H
              replace nvp := nvp.hold H
              replace nl := nl.hold H
              replace nr := nr.hold H
              replace nm := nm.hold H
              replace nn := nn.hold H
              replace nq := nq.hold H
              replace HH := HH.trans H
              clear H
              refine hK.out _ _ ⟨S.c 0 0 rfl rfl, S.c 0 1 rfl rfl⟩ (fun hS => ?_)
              generalize ((w44.setCell ⟨w22.heap.size, 0, none⟩ (.bool (negB zm))).setCell ⟨w22.heap.size, 1, none⟩ (.slice ps ls Ks)) = w45 at S N1 nv1 nvp nl nr nm nn nq HH hS ⊢
              clear hK K
              try simp only [Act.put, List.setIfInBounds_toArray, List.set_cons_zero, List.set_cons_succ]
              refine wpAnyH_ready (rs := [12]) (by kernel_rfl) (by simp) (AllReadyH.cons ((List.getElem?_toArray ..).trans rfl) (fun K hK => ?_) AllReadyH.nil)
              go_simp
              refine hK.out _ _ hS (fun hS => ?_)
              clear hK K
              try simp only [Act.put, List.setIfInBounds_toArray, List.set_cons_zero, List.set_cons_succ]
              refine wpAnyH_done (by kernel_rfl) ?_ _
              go_wp2_with fail
              go_meet
              case rel => exact ⟨w42.heap.size, w22.heap.size, pq, lq, Kq, ps, ls, Ks, rfl, rfl, rfl, Sv.of S [0, 1, 2, 3, 4, 6, 5] rfl, nq, HH⟩
            ·
              go_simp
              clear hS
              have H := S.hnew 25 [.bool false, .slice none 0 0]
              replace S := S.alloc 25 [.bool false, .slice none 0 0] (w41.heap.size)
              replace N1 := N1.hold H
              replace nv1 := nv1.hold H
              replace nvp := nvp.hold H
              replace nl := nl.hold H
              replace nr := nr.hold H
              replace nm := nm.hold H
              replace nn := nn.hold H
              replace HH := HH.trans H
              clear H
              refine hK.out _ _ ⟨S.c 0 0 rfl rfl, S.c 0 1 rfl rfl⟩ (fun hS => ?_)
              generalize (w41.alloc (.cells #[.bool false, .slice none 0 0] 25)) = w46 at S N1 nv1 nvp nl nr nm nn HH hS ⊢
              clear hK K
              try simp only [Act.put, List.setIfInBounds_toArray, List.set_cons_zero, List.set_cons_succ]
              refine wpAnyH_ready (rs := [3]) (by kernel_rfl) (by simp) (AllReadyH.cons ((List.getElem?_toArray ..).trans rfl) (fun K hK => ?_) AllReadyH.nil)
              go_simp
              clear hS
              refine (S.call (wdiv_to ⟨_, _, _, by rw [hz1.out], N1⟩ ⟨_, _, _, rfl, nn⟩ (nb_max M1.out (by decide)) (by rw [Int.natAbs_pow]; exact nb_max B2.out (by decide)) zr zm (by have := Int.pow_pos (n := 2) (m := k) (by decide); omega) HZ.out.2.1 HZ.out.2.2.1)).mono ?_
              clear S
              rintro e w47 ⟨⟨_, _, rfl, ⟨pq, lq, Kq, rfl, nq⟩, ⟨ps, ls, Ks, rfl, ns⟩⟩, S, H⟩
              replace N1 := N1.hold H
              replace nv1 := nv1.hold H
              replace nvp := nvp.hold H
              replace nl := nl.hold H
              replace nr := nr.hold H
              replace nm := nm.hold H
              replace nn := nn.hold H
              replace HH := HH.trans H
              clear H
              go_wp2_with fail
              refine hK.out _ _ ⟨S.c 0 0 rfl rfl, S.c 0 1 rfl rfl⟩ (fun hS => ?_)
              clear hK K
              try simp only [Act.put, List.setIfInBounds_toArray, List.set_cons_zero, List.set_cons_succ]
              refine wpAnyH_take (i := 4) (v := ?_) ((List.getElem?_toArray ..).trans rfl) (by kernel_rfl) (by kernel_rfl) (by kernel_rfl) (fun _ _ _ h => h) (Or.inl ⟨rfl, fun W hW => ?_⟩) hS ?_
              rotate_left
              · obtain ⟨hW0, hW1⟩ := hW; go_simp; try first | rfl | kernel_rfl
              try simp only [Act.put, List.setIfInBounds_toArray, List.set_cons_zero, List.set_cons_succ]
              refine wpAnyH_take (i := 5) (v := ?_) ((List.getElem?_toArray ..).trans rfl) (by kernel_rfl) (by kernel_rfl) (by kernel_rfl) (fun _ _ _ h => h) (Or.inl ⟨rfl, fun W hW => ?_⟩) hS ?_
              rotate_left
              · obtain ⟨hW0, hW1⟩ := hW; go_simp; try first | rfl | kernel_rfl
              try simp only [Act.put, List.setIfInBounds_toArray, List.set_cons_zero, List.set_cons_succ]
              refine wpAnyH_take (i := 6) (v := ?_) ((List.getElem?_toArray ..).trans rfl) (by kernel_rfl) (by kernel_rfl) (by kernel_rfl) (fun _ _ _ h => h) (Or.inl ⟨rfl, fun W hW => ?_⟩) hS ?_
              rotate_left
              · obtain ⟨hW0, hW1⟩ := hW; go_simp; try first | rfl | kernel_rfl
              try simp only [Act.put, List.setIfInBounds_toArray, List.set_cons_zero, List.set_cons_succ]
              refine wpAnyH_take (i := 7) (v := ?_) ((List.getElem?_toArray ..).trans rfl) (by kernel_rfl) (by kernel_rfl) (by kernel_rfl) (fun _ _ _ h => h) (Or.inl ⟨rfl, fun W hW => ?_⟩) hS ?_
              rotate_left
              · obtain ⟨hW0, hW1⟩ := hW; go_simp; try first | rfl | kernel_rfl
              try simp only [Act.put, List.setIfInBounds_toArray, List.set_cons_zero, List.set_cons_succ]
              refine wpAnyH_ready (rs := [10]) (by kernel_rfl) (by simp) (AllReadyH.cons ((List.getElem?_toArray ..).trans rfl) (fun K hK => ?_) AllReadyH.nil)
              have c0 := S.c 6 0 rfl rfl
              have f0 := S.f 6 0 rfl
              have c1 := S.c 6 1 rfl rfl
              have f1 := S.f 6 1 rfl
              go_simp
              clear hS c0 f0 c1 f1
              have H := S.hset 6 0 (.bool (negB zr)) rfl rfl (by intro q n e; cases e)
              replace S := S.set 6 0 (.bool (negB zr)) rfl
              replace N1 := N1.hold H
              replace nv1 := nv1.hold H
              replace nvp := nvp.hold H
              replace nl := nl.hold H
              replace nr := nr.hold H
              replace nm := nm.hold H
              replace nn := nn.hold H
              replace nq := nq.hold H
              replace HH := HH.trans H
              clear H
              have H := S.hset 6 1 (.slice pq lq Kq) rfl rfl (by intro q n e; cases e)
              replace S := S.set 6 1 (.slice pq lq Kq) rfl
              replace N1 := N1.hold H
              replace nv1 := nv1.hold H
              replace nvp := nvp.hold H
              replace nl := nl.hold H
              replace nr := nr.hold H
              replace nm := nm.hold H
              replace nn := nn.hold H
              replace nq := nq.hold H
              replace HH := HH.trans H
              clear H
              refine hK.out _ _ ⟨S.c 0 0 rfl rfl, S.c 0 1 rfl rfl⟩ (fun hS => ?_)
              generalize ((w47.setCell ⟨w41.heap.size, 0, none⟩ (.bool (negB zr))).setCell ⟨w41.heap.size, 1, none⟩ (.slice pq lq Kq)) = w48 at S N1 nv1 nvp nl nr nm nn nq HH hS ⊢
              clear hK K
              try simp only [Act.put, List.setIfInBounds_toArray, List.set_cons_zero, List.set_cons_succ]
              refine wpAnyH_ready (rs := [11]) (by kernel_rfl) (by simp) (AllReadyH.cons ((List.getElem?_toArray ..).trans rfl) (fun K hK => ?_) AllReadyH.nil)
              have c0 := S.c 5 0 rfl rfl
              have f0 := S.f 5 0 rfl
              have c1 := S.c 5 1 rfl rfl
              have f1 := S.f 5 1 rfl
              go_simp
              clear hS c0 f0 c1 f1
              have H := S.hset 5 0 (.bool (negB zm)) rfl rfl (by intro q n e; cases e)
              replace S := S.set 5 0 (.bool (negB zm)) rfl
              replace N1 := N1.hold H
              replace nv1 := nv1.hold H
              replace nvp := nvp.hold H
              replace nl := nl.hold H
              replace nr := nr.hold H
              replace nm := nm.hold H
              replace nn := nn.hold H
              replace nq := nq.hold H
              replace HH := HH.trans H
              clear H
              have H := S.hset 5 1 (.slice ps ls Ks) rfl rfl (by intro q n e; cases e)
              replace S := S.set 5 1 (.slice ps ls Ks) rfl
              replace N1 := N1.hold H
              replace nv1 := nv1.hold H
              replace nvp := nvp.hold H
              replace nl := nl.hold H
              replace nr := nr.hold H
              replace nm := nm.hold H
              replace nn := nn.hold H
              replace nq := nq.hold H
              replace HH := HH.trans H
              clear H
              refine hK.out _ _ ⟨S.c 0 0 rfl rfl, S.c 0 1 rfl rfl⟩ (fun hS => ?_)
              generalize ((w48.setCell ⟨w22.heap.size, 0, none⟩ (.bool (negB zm))).setCell ⟨w22.heap.size, 1, none⟩ (.slice ps ls Ks)) = w49 at S N1 nv1 nvp nl nr nm nn nq HH hS ⊢
              clear hK K
              try simp only [Act.put, List.setIfInBounds_toArray, List.set_cons_zero, List.set_cons_succ]
              refine wpAnyH_ready (rs := [12]) (by kernel_rfl) (by simp) (AllReadyH.cons ((List.getElem?_toArray ..).trans rfl) (fun K hK => ?_) AllReadyH.nil)
              go_simp
              refine hK.out _ _ hS (fun hS => ?_)
              clear hK K
              try simp only [Act.put, List.setIfInBounds_toArray, List.set_cons_zero, List.set_cons_succ]
              refine wpAnyH_done (by kernel_rfl) ?_ _
              go_wp2_with fail
              go_meet
              case rel => exact ⟨w41.heap.size, w22.heap.size, pq, lq, Kq, ps, ls, Ks, rfl, rfl, rfl, Sv.of S [0, 1, 2, 3, 4, 6, 5] rfl, nq, HH⟩
        ·
          go_simp
          clear hS
          have H := S.hnew 25 [.bool false, .slice none 0 0]
          replace S := S.alloc 25 [.bool false, .slice none 0 0] (w21.heap.size)
          replace N1 := N1.hold H
          replace nv1 := nv1.hold H
          replace nvp := nvp.hold H
          replace nl := nl.hold H
          replace nr := nr.hold H
          replace nm := nm.hold H
          replace HH := HH.trans H
          clear H
          refine hK.out _ _ ⟨S.c 0 0 rfl rfl, S.c 0 1 rfl rfl⟩ (fun hS => ?_)
          generalize (w21.alloc (.cells #[.bool false, .slice none 0 0] 25)) = w50 at S N1 nv1 nvp nl nr nm HH hS ⊢
          clear hK K
          try simp only [Act.put, List.setIfInBounds_toArray, List.set_cons_zero, List.set_cons_succ]
          refine wpAnyH_ready (rs := [2, 9]) (by kernel_rfl) (by simp) (AllReadyH.cons ((List.getElem?_toArray ..).trans rfl) (fun K hK => ?_) (AllReadyH.cons ((List.getElem?_toArray ..).trans rfl) (fun K hK => ?_) AllReadyH.nil))
          ·
            go_simp
            clear hS
            refine (S.call (wnat_any nvp (by rw [Nat.one_mul]; exact nb_max B2.out (by decide)) ((2 : Int) ^ k) (by simp))).mono ?_
            clear S
            rintro e w51 ⟨⟨_, rfl, pn, ln, Kn, rfl, nn⟩, S, H⟩
            replace N1 := N1.hold H
            replace nv1 := nv1.hold H
            replace nvp := nvp.hold H
            replace nl := nl.hold H
            replace nr := nr.hold H
            replace nm := nm.hold H
            replace HH := HH.trans H
            clear H
            go_wp2_with fail
            refine hK.out _ _ ⟨S.c 0 0 rfl rfl, S.c 0 1 rfl rfl⟩ (fun hS => ?_)
            clear hK K
            try simp only [Act.put, List.setIfInBounds_toArray, List.set_cons_zero, List.set_cons_succ]
            refine wpAnyH_ready (rs := [3, 9]) (by kernel_rfl) (by simp) (AllReadyH.cons ((List.getElem?_toArray ..).trans rfl) (fun K hK => ?_) (AllReadyH.cons ((List.getElem?_toArray ..).trans rfl) (fun K hK => ?_) AllReadyH.nil))
            ·
              go_simp
              clear hS
              refine (S.call (wdiv_to ⟨_, _, _, by rw [hz1.out], N1⟩ ⟨_, _, _, rfl, nn⟩ (nb_max M1.out (by decide)) (by rw [Int.natAbs_pow]; exact nb_max B2.out (by decide)) zr zm (by have := Int.pow_pos (n := 2) (m := k) (by decide); omega) HZ.out.2.1 HZ.out.2.2.1)).mono ?_
              clear S
              rintro e w52 ⟨⟨_, _, rfl, ⟨pq, lq, Kq, rfl, nq⟩, ⟨ps, ls, Ks, rfl, ns⟩⟩, S, H⟩
              replace N1 := N1.hold H
              replace nv1 := nv1.hold H
              replace nvp := nvp.hold H
              replace nl := nl.hold H
              replace nr := nr.hold H
              replace nm := nm.hold H
              replace nn := nn.hold H
              replace HH := HH.trans H
              clear H
              go_wp2_with fail
              refine hK.out _ _ ⟨S.c 0 0 rfl rfl, S.c 0 1 rfl rfl⟩ (fun hS => ?_)
              clear hK K
              try simp only [Act.put, List.setIfInBounds_toArray, List.set_cons_zero, List.set_cons_succ]
              refine wpAnyH_take (i := 4) (v := ?_) ((List.getElem?_toArray ..).trans rfl) (by kernel_rfl) (by kernel_rfl) (by kernel_rfl) (fun _ _ _ h => h) (Or.inl ⟨rfl, fun W hW => ?_⟩) hS ?_
              rotate_left
              · obtain ⟨hW0, hW1⟩ := hW; go_simp; try first | rfl | kernel_rfl
              try simp only [Act.put, List.setIfInBounds_toArray, List.set_cons_zero, List.set_cons_succ]
              refine wpAnyH_take (i := 5) (v := ?_) ((List.getElem?_toArray ..).trans rfl) (by kernel_rfl) (by kernel_rfl) (by kernel_rfl) (fun _ _ _ h => h) (Or.inl ⟨rfl, fun W hW => ?_⟩) hS ?_
              rotate_left
              · obtain ⟨hW0, hW1⟩ := hW; go_simp; try first | rfl | kernel_rfl
              try simp only [Act.put, List.setIfInBounds_toArray, List.set_cons_zero, List.set_cons_succ]
              refine wpAnyH_take (i := 6) (v := ?_) ((List.getElem?_toArray ..).trans rfl) (by kernel_rfl) (by kernel_rfl) (by kernel_rfl) (fun _ _ _ h => h) (Or.inl ⟨rfl, fun W hW => ?_⟩) hS ?_
              rotate_left
              · obtain ⟨hW0, hW1⟩ := hW; go_simp; try first | rfl | kernel_rfl
              try simp only [Act.put, List.setIfInBounds_toArray, List.set_cons_zero, List.set_cons_succ]
              refine wpAnyH_take (i := 7) (v := ?_) ((List.getElem?_toArray ..).trans rfl) (by kernel_rfl) (by kernel_rfl) (by kernel_rfl) (fun _ _ _ h => h) (Or.inl ⟨rfl, fun W hW => ?_⟩) hS ?_
              rotate_left
              · obtain ⟨hW0, hW1⟩ := hW; go_simp; try first | rfl | kernel_rfl
              try simp only [Act.put, List.setIfInBounds_toArray, List.set_cons_zero, List.set_cons_succ]
              refine wpAnyH_ready (rs := [9]) (by kernel_rfl) (by simp) (AllReadyH.cons ((List.getElem?_toArray ..).trans rfl) (fun K hK => ?_) AllReadyH.nil)
              go_simp
              clear hS
              have H := S.hnew 25 [.bool false, .slice none 0 0]
              replace S := S.alloc 25 [.bool false, .slice none 0 0] (w52.heap.size)
              replace N1 := N1.hold H
              replace nv1 := nv1.hold H
              replace nvp := nvp.hold H
              replace nl := nl.hold H
              replace nr := nr.hold H
              replace nm := nm.hold H
              replace nn := nn.hold H
              replace nq := nq.hold H
              replace HH := HH.trans H
              clear H
              refine hK.out _ _ ⟨S.c 0 0 rfl rfl, S.c 0 1 rfl rfl⟩ (fun hS => ?_)
              generalize (w52.alloc (.cells #[.bool false, .slice none 0 0] 25)) = w53 at S N1 nv1 nvp nl nr nm nn nq HH hS ⊢
              clear hK K
              try simp only [Act.put, List.setIfInBounds_toArray, List.set_cons_zero, List.set_cons_succ]
              refine wpAnyH_ready (rs := [10]) (by kernel_rfl) (by simp) (AllReadyH.cons ((List.getElem?_toArray ..).trans rfl) (fun K hK => ?_) AllReadyH.nil)
              have c0 := S.c 5 0 rfl rfl
              have f0 := S.f 5 0 rfl
              have c1 := S.c 5 1 rfl rfl
              have f1 := S.f 5 1 rfl
              go_simp
              clear hS c0 f0 c1 f1
              have H := S.hset 5 0 (.bool (negB zr)) rfl rfl (by intro q n e; cases e)
              replace S := S.set 5 0 (.bool (negB zr)) rfl
              replace N1 := N1.hold H
              replace nv1 := nv1.hold H
              replace nvp := nvp.hold H
              replace nl := nl.hold H
              replace nr := nr.hold H
              replace nm := nm.hold H
              replace nn := nn.hold H
              replace nq := nq.hold H
              replace HH := HH.trans H
              clear H
              have H := S.hset 5 1 (.slice pq lq Kq) rfl rfl (by intro q n e; cases e)
              replace S := S.set 5 1 (.slice pq lq Kq) rfl
              replace N1 := N1.hold H
              replace nv1 := nv1.hold H
              replace nvp := nvp.hold H
              replace nl := nl.hold H
              replace nr := nr.hold H
              replace nm := nm.hold H
              replace nn := nn.hold H
              replace nq := nq.hold H
              replace HH := HH.trans H
              clear H
              refine hK.out _ _ ⟨S.c 0 0 rfl rfl, S.c 0 1 rfl rfl⟩ (fun hS => ?_)
              generalize ((w53.setCell ⟨w21.heap.size, 0, none⟩ (.bool (negB zr))).setCell ⟨w21.heap.size, 1, none⟩ (.slice pq lq Kq)) = w54 at S N1 nv1 nvp nl nr nm nn nq HH hS ⊢
              clear hK K
              try simp only [Act.put, List.setIfInBounds_toArray, List.set_cons_zero, List.set_cons_succ]
              refine wpAnyH_ready (rs := [11]) (by kernel_rfl) (by simp) (AllReadyH.cons ((List.getElem?_toArray ..).trans rfl) (fun K hK => ?_) AllReadyH.nil)
              have c0 := S.c 6 0 rfl rfl
              have f0 := S.f 6 0 rfl
              have c1 := S.c 6 1 rfl rfl
              have f1 := S.f 6 1 rfl
              go_simp
              clear hS c0 f0 c1 f1
              have H := S.hset 6 0 (.bool (negB zm)) rfl rfl (by intro q n e; cases e)
              replace S := S.set 6 0 (.bool (negB zm)) rfl
              replace N1 := N1.hold H
              replace nv1 := nv1.hold H
              replace nvp := nvp.hold H
              replace nl := nl.hold H
              replace nr := nr.hold H
              replace nm := nm.hold H
              replace nn := nn.hold H
              replace nq := nq.hold H
              replace HH := HH.trans H
              clear H
              have H := S.hset 6 1 (.slice ps ls Ks) rfl rfl (by intro q n e; cases e)
              replace S := S.set 6 1 (.slice ps ls Ks) rfl
              replace N1 := N1.hold H
              replace nv1 := nv1.hold H
              replace nvp := nvp.hold H
              replace nl := nl.hold H
              replace nr := nr.hold H
              replace nm := nm.hold H
              replace nn := nn.hold H
              replace nq := nq.hold H
              replace HH := HH.trans H
              clear H
              refine hK.out _ _ ⟨S.c 0 0 rfl rfl, S.c 0 1 rfl rfl⟩ (fun hS => ?_)
              generalize ((w54.setCell ⟨w52.heap.size, 0, none⟩ (.bool (negB zm))).setCell ⟨w52.heap.size, 1, none⟩ (.slice ps ls Ks)) = w55 at S N1 nv1 nvp nl nr nm nn nq HH hS ⊢
              clear hK K
              try simp only [Act.put, List.setIfInBounds_toArray, List.set_cons_zero, List.set_cons_succ]
              refine wpAnyH_ready (rs := [12]) (by kernel_rfl) (by simp) (AllReadyH.cons ((List.getElem?_toArray ..).trans rfl) (fun K hK => ?_) AllReadyH.nil)
              go_simp
              refine hK.out _ _ hS (fun hS => ?_)
              clear hK K
              try simp only [Act.put, List.setIfInBounds_toArray, List.set_cons_zero, List.set_cons_succ]
              refine wpAnyH_done (by kernel_rfl) ?_ _
              go_wp2_with fail
              go_meet
              case rel => exact ⟨w21.heap.size, w52.heap.size, pq, lq, Kq, ps, ls, Ks, rfl, rfl, rfl, Sv.of S [0, 1, 2, 3, 4, 5, 6] rfl, nq, HH⟩
            ·
              go_simp
              clear hS
              have H := S.hnew 25 [.bool false, .slice none 0 0]
              replace S := S.alloc 25 [.bool false, .slice none 0 0] (w51.heap.size)
              replace N1 := N1.hold H
              replace nv1 := nv1.hold H
              replace nvp := nvp.hold H
              replace nl := nl.hold H
              replace nr := nr.hold H
              replace nm := nm.hold H
              replace nn := nn.hold H
              replace HH := HH.trans H
              clear H
              refine hK.out _ _ ⟨S.c 0 0 rfl rfl, S.c 0 1 rfl rfl⟩ (fun hS => ?_)
              generalize (w51.alloc (.cells #[.bool false, .slice none 0 0] 25)) = w56 at S N1 nv1 nvp nl nr nm nn HH hS ⊢
              clear hK K
              try simp only [Act.put, List.setIfInBounds_toArray, List.set_cons_zero, List.set_cons_succ]
              refine wpAnyH_ready (rs := [3]) (by kernel_rfl) (by simp) (AllReadyH.cons ((List.getElem?_toArray ..).trans rfl) (fun K hK => ?_) AllReadyH.nil)
              go_simp
              clear hS
              refine (S.call (wdiv_to ⟨_, _, _, by rw [hz1.out], N1⟩ ⟨_, _, _, rfl, nn⟩ (nb_max M1.out (by decide)) (by rw [Int.natAbs_pow]; exact nb_max B2.out (by decide)) zr zm (by have := Int.pow_pos (n := 2) (m := k) (by decide); omega) HZ.out.2.1 HZ.out.2.2.1)).mono ?_
              clear S
              rintro e w57 ⟨⟨_, _, rfl, ⟨pq, lq, Kq, rfl, nq⟩, ⟨ps, ls, Ks, rfl, ns⟩⟩, S, H⟩
              replace N1 := N1.hold H
              replace nv1 := nv1.hold H
              replace nvp := nvp.hold H
              replace nl := nl.hold H
              replace nr := nr.hold H
              replace nm := nm.hold H
              replace nn := nn.hold H
              replace HH := HH.trans H
              clear H
              go_wp2_with fail
              refine hK.out _ _ ⟨S.c 0 0 rfl rfl, S.c 0 1 rfl rfl⟩ (fun hS => ?_)
              clear hK K
              try simp only [Act.put, List.setIfInBounds_toArray, List.set_cons_zero, List.set_cons_succ]
              refine wpAnyH_take (i := 4) (v := ?_) ((List.getElem?_toArray ..).trans rfl) (by kernel_rfl) (by kernel_rfl) (by kernel_rfl) (fun _ _ _ h => h) (Or.inl ⟨rfl, fun W hW => ?_⟩) hS ?_
              rotate_left
              · obtain ⟨hW0, hW1⟩ := hW; go_simp; try first | rfl | kernel_rfl
              try simp only [Act.put, List.setIfInBounds_toArray, List.set_cons_zero, List.set_cons_succ]
              refine wpAnyH_take (i := 5) (v := ?_) ((List.getElem?_toArray ..).trans rfl) (by kernel_rfl) (by kernel_rfl) (by kernel_rfl) (fun _ _ _ h => h) (Or.inl ⟨rfl, fun W hW => ?_⟩) hS ?_
              rotate_left
              · obtain ⟨hW0, hW1⟩ := hW; go_simp; try first | rfl | kernel_rfl
              try simp only [Act.put, List.setIfInBounds_toArray, List.set_cons_zero, List.set_cons_succ]
              refine wpAnyH_take (i := 6) (v := ?_) ((List.getElem?_toArray ..).trans rfl) (by kernel_rfl) (by kernel_rfl) (by kernel_rfl) (fun _ _ _ h => h) (Or.inl ⟨rfl, fun W hW => ?_⟩) hS ?_
              rotate_left
              · obtain ⟨hW0, hW1⟩ := hW; go_simp; try first | rfl | kernel_rfl
              try simp only [Act.put, List.setIfInBounds_toArray, List.set_cons_zero, List.set_cons_succ]
              refine wpAnyH_take (i := 7) (v := ?_) ((List.getElem?_toArray ..).trans rfl) (by kernel_rfl) (by kernel_rfl) (by kernel_rfl) (fun _ _ _ h => h) (Or.inl ⟨rfl, fun W hW => ?_⟩) hS ?_
              rotate_left
              · obtain ⟨hW0, hW1⟩ := hW; go_simp; try first | rfl | kernel_rfl
              try simp only [Act.put, List.setIfInBounds_toArray, List.set_cons_zero, List.set_cons_succ]
              refine wpAnyH_ready (rs := [10]) (by kernel_rfl) (by simp) (AllReadyH.cons ((List.getElem?_toArray ..).trans rfl) (fun K hK => ?_) AllReadyH.nil)
              have c0 := S.c 5 0 rfl rfl
              have f0 := S.f 5 0 rfl
              have c1 := S.c 5 1 rfl rfl
              have f1 := S.f 5 1 rfl
              go_simp
              clear hS c0 f0 c1 f1
              have H := S.hset 5 0 (.bool (negB zr)) rfl rfl (by intro q n e; cases e)
              replace S := S.set 5 0 (.bool (negB zr)) rfl
              replace N1 := N1.hold H
              replace nv1 := nv1.hold H
              replace nvp := nvp.hold H
              replace nl := nl.hold H
              replace nr := nr.hold H
              replace nm := nm.hold H
              replace nn := nn.hold H
              replace nq := nq.hold H
              replace HH := HH.trans H
              clear H
              have H := S.hset 5 1 (.slice pq lq Kq) rfl rfl (by intro q n e; cases e)
              replace S := S.set 5 1 (.slice pq lq Kq) rfl
              replace N1 := N1.hold H
              replace nv1 := nv1.hold H
              replace nvp := nvp.hold H
              replace nl := nl.hold H
              replace nr := nr.hold H
              replace nm := nm.hold H
              replace nn := nn.hold H
              replace nq := nq.hold H
              replace HH := HH.trans H
              clear H
              refine hK.out _ _ ⟨S.c 0 0 rfl rfl, S.c 0 1 rfl rfl⟩ (fun hS => ?_)
              generalize ((w57.setCell ⟨w21.heap.size, 0, none⟩ (.bool (negB zr))).setCell ⟨w21.heap.size, 1, none⟩ (.slice pq lq Kq)) = w58 at S N1 nv1 nvp nl nr nm nn nq HH hS ⊢
              clear hK K
              try simp only [Act.put, List.setIfInBounds_toArray, List.set_cons_zero, List.set_cons_succ]
              refine wpAnyH_ready (rs := [11]) (by kernel_rfl) (by simp) (AllReadyH.cons ((List.getElem?_toArray ..).trans rfl) (fun K hK => ?_) AllReadyH.nil)
              have c0 := S.c 6 0 rfl rfl
              have f0 := S.f 6 0 rfl
              have c1 := S.c 6 1 rfl rfl
              have f1 := S.f 6 1 rfl
              go_simp
              clear hS c0 f0 c1 f1
              have H := S.hset 6 0 (.bool (negB zm)) rfl rfl (by intro q n e; cases e)
              replace S := S.set 6 0 (.bool (negB zm)) rfl
              replace N1 := N1.hold H
              replace nv1 := nv1.hold H
              replace nvp := nvp.hold H
              replace nl := nl.hold H
              replace nr := nr.hold H
              replace nm := nm.hold H
              replace nn := nn.hold H
              replace nq := nq.hold H
              replace HH := HH.trans H
              clear H
              have H := S.hset 6 1 (.slice ps ls Ks) rfl rfl (by intro q n e; cases e)
              replace S := S.set 6 1 (.slice ps ls Ks) rfl
              replace N1 := N1.hold H
              replace nv1 := nv1.hold H
              replace nvp := nvp.hold H
              replace nl := nl.hold H
              replace nr := nr.hold H
              replace nm := nm.hold H
              replace nn := nn.hold H
              replace nq := nq.hold H
              replace HH := HH.trans H
              clear H
              refine hK.out _ _ ⟨S.c 0 0 rfl rfl, S.c 0 1 rfl rfl⟩ (fun hS => ?_)
              generalize ((w58.setCell ⟨w51.heap.size, 0, none⟩ (.bool (negB zm))).setCell ⟨w51.heap.size, 1, none⟩ (.slice ps ls Ks)) = w59 at S N1 nv1 nvp nl nr nm nn nq HH hS ⊢
              clear hK K
              try simp only [Act.put, List.setIfInBounds_toArray, List.set_cons_zero, List.set_cons_succ]
              refine wpAnyH_ready (rs := [12]) (by kernel_rfl) (by simp) (AllReadyH.cons ((List.getElem?_toArray ..).trans rfl) (fun K hK => ?_) AllReadyH.nil)
              go_simp
              refine hK.out _ _ hS (fun hS => ?_)
              clear hK K
              try simp only [Act.put, List.setIfInBounds_toArray, List.set_cons_zero, List.set_cons_succ]
              refine wpAnyH_done (by kernel_rfl) ?_ _
              go_wp2_with fail
              go_meet
              case rel => exact ⟨w21.heap.size, w51.heap.size, pq, lq, Kq, ps, ls, Ks, rfl, rfl, rfl, Sv.of S [0, 1, 2, 3, 4, 5, 6] rfl, nq, HH⟩
          ·
            go_simp
            clear hS
            have H := S.hnew 25 [.bool false, .slice none 0 0]
            replace S := S.alloc 25 [.bool false, .slice none 0 0] (w50.heap.size)
            replace N1 := N1.hold H
            replace nv1 := nv1.hold H
            replace nvp := nvp.hold H
            replace nl := nl.hold H
            replace nr := nr.hold H
            replace nm := nm.hold H
            replace HH := HH.trans H
            clear H
            refine hK.out _ _ ⟨S.c 0 0 rfl rfl, S.c 0 1 rfl rfl⟩ (fun hS => ?_)
            generalize (w50.alloc (.cells #[.bool false, .slice none 0 0] 25)) = w60 at S N1 nv1 nvp nl nr nm HH hS ⊢
            clear hK K
            try simp only [Act.put, List.setIfInBounds_toArray, List.set_cons_zero, List.set_cons_succ]
            refine wpAnyH_ready (rs := [2]) (by kernel_rfl) (by simp) (AllReadyH.cons ((List.getElem?_toArray ..).trans rfl) (fun K hK => ?_) AllReadyH.nil)
            go_simp
            clear hS
            refine (S.call (wnat_any nvp (by rw [Nat.one_mul]; exact nb_max B2.out (by decide)) ((2 : Int) ^ k) (by simp))).mono ?_
            clear S
            rintro e w61 ⟨⟨_, rfl, pn, ln, Kn, rfl, nn⟩, S, H⟩
            replace N1 := N1.hold H
            replace nv1 := nv1.hold H
            replace nvp := nvp.hold H
            replace nl := nl.hold H
            replace nr := nr.hold H
            replace nm := nm.hold H
            replace HH := HH.trans H
            clear H
            go_wp2_with fail
            refine hK.out _ _ ⟨S.c 0 0 rfl rfl, S.c 0 1 rfl rfl⟩ (fun hS => ?_)
            clear hK K
            try simp only [Act.put, List.setIfInBounds_toArray, List.set_cons_zero, List.set_cons_succ]
            refine wpAnyH_ready (rs := [3]) (by kernel_rfl) (by simp) (AllReadyH.cons ((List.getElem?_toArray ..).trans rfl) (fun K hK => ?_) AllReadyH.nil)
            go_simp
            clear hS
            refine (S.call (wdiv_to ⟨_, _, _, by rw [hz1.out], N1⟩ ⟨_, _, _, rfl, nn⟩ (nb_max M1.out (by decide)) (by rw [Int.natAbs_pow]; exact nb_max B2.out (by decide)) zr zm (by have := Int.pow_pos (n := 2) (m := k) (by decide); omega) HZ.out.2.1 HZ.out.2.2.1)).mono ?_
            clear S
            rintro e w62 ⟨⟨_, _, rfl, ⟨pq, lq, Kq, rfl, nq⟩, ⟨ps, ls, Ks, rfl, ns⟩⟩, S, H⟩
            replace N1 := N1.hold H
            replace nv1 := nv1.hold H
            replace nvp := nvp.hold H
            replace nl := nl.hold H
            replace nr := nr.hold H
            replace nm := nm.hold H
            replace nn := nn.hold H
            replace HH := HH.trans H
            clear H
            go_wp2_with fail
            refine hK.out _ _ ⟨S.c 0 0 rfl rfl, S.c 0 1 rfl rfl⟩ (fun hS => ?_)
            clear hK K
            try simp only [Act.put, List.setIfInBounds_toArray, List.set_cons_zero, List.set_cons_succ]
            refine wpAnyH_take (i := 4) (v := ?_) ((List.getElem?_toArray ..).trans rfl) (by kernel_rfl) (by kernel_rfl) (by kernel_rfl) (fun _ _ _ h => h) (Or.inl ⟨rfl, fun W hW => ?_⟩) hS ?_
            rotate_left
            · obtain ⟨hW0, hW1⟩ := hW; go_simp; try first | rfl | kernel_rfl
            try simp only [Act.put, List.setIfInBounds_toArray, List.set_cons_zero, List.set_cons_succ]
            refine wpAnyH_take (i := 5) (v := ?_) ((List.getElem?_toArray ..).trans rfl) (by kernel_rfl) (by kernel_rfl) (by kernel_rfl) (fun _ _ _ h => h) (Or.inl ⟨rfl, fun W hW => ?_⟩) hS ?_
            rotate_left
            · obtain ⟨hW0, hW1⟩ := hW; go_simp; try first | rfl | kernel_rfl
            try simp only [Act.put, List.setIfInBounds_toArray, List.set_cons_zero, List.set_cons_succ]
            refine wpAnyH_take (i := 6) (v := ?_) ((List.getElem?_toArray ..).trans rfl) (by kernel_rfl) (by kernel_rfl) (by kernel_rfl) (fun _ _ _ h => h) (Or.inl ⟨rfl, fun W hW => ?_⟩) hS ?_
            rotate_left
            · obtain ⟨hW0, hW1⟩ := hW; go_simp; try first | rfl | kernel_rfl
            try simp only [Act.put, List.setIfInBounds_toArray, List.set_cons_zero, List.set_cons_succ]
            refine wpAnyH_take (i := 7) (v := ?_) ((List.getElem?_toArray ..).trans rfl) (by kernel_rfl) (by kernel_rfl) (by kernel_rfl) (fun _ _ _ h => h) (Or.inl ⟨rfl, fun W hW => ?_⟩) hS ?_
            rotate_left
            · obtain ⟨hW0, hW1⟩ := hW; go_simp; try first | rfl | kernel_rfl
            try simp only [Act.put, List.setIfInBounds_toArray, List.set_cons_zero, List.set_cons_succ]
            refine wpAnyH_ready (rs := [10]) (by kernel_rfl) (by simp) (AllReadyH.cons ((List.getElem?_toArray ..).trans rfl) (fun K hK => ?_) AllReadyH.nil)
            have c0 := S.c 5 0 rfl rfl
            have f0 := S.f 5 0 rfl
            have c1 := S.c 5 1 rfl rfl
            have f1 := S.f 5 1 rfl
            go_simp
            clear hS c0 f0 c1 f1
            have H := S.hset 5 0 (.bool (negB zr)) rfl rfl (by intro q n e; cases e)
            replace S := S.set 5 0 (.bool (negB zr)) rfl
            replace N1 := N1.hold H
            replace nv1 := nv1.hold H
            replace nvp := nvp.hold H
            replace nl := nl.hold H
            replace nr := nr.hold H
            replace nm := nm.hold H
            replace nn := nn.hold H
            replace nq := nq.hold H
            replace HH := HH.trans H
            clear H
            have H := S.hset 5 1 (.slice pq lq Kq) rfl rfl (by intro q n e; cases e)
            replace S := S.set 5 1 (.slice pq lq Kq) rfl
            replace N1 := N1.hold H
            replace nv1 := nv1.hold H
            replace nvp := nvp.hold H
            replace nl := nl.hold H
            replace nr := nr.hold H
            replace nm := nm.hold H
            replace nn := nn.hold H
            replace nq := nq.hold H
            replace HH := HH.trans H
            clear H
            refine hK.out _ _ ⟨S.c 0 0 rfl rfl, S.c 0 1 rfl rfl⟩ (fun hS => ?_)
            generalize ((w62.setCell ⟨w21.heap.size, 0, none⟩ (.bool (negB zr))).setCell ⟨w21.heap.size, 1, none⟩ (.slice pq lq Kq)) = w63 at S N1 nv1 nvp nl nr nm nn nq HH hS ⊢
            clear hK K
            try simp only [Act.put, List.setIfInBounds_toArray, List.set_cons_zero, List.set_cons_succ]
            refine wpAnyH_ready (rs := [11]) (by kernel_rfl) (by simp) (AllReadyH.cons ((List.getElem?_toArray ..).trans rfl) (fun K hK => ?_) AllReadyH.nil)
            have c0 := S.c 6 0 rfl rfl
            have f0 := S.f 6 0 rfl
            have c1 := S.c 6 1 rfl rfl
            have f1 := S.f 6 1 rfl
            go_simp
            clear hS c0 f0 c1 f1
            have H := S.hset 6 0 (.bool (negB zm)) rfl rfl (by intro q n e; cases e)
            replace S := S.set 6 0 (.bool (negB zm)) rfl
            replace N1 := N1.hold H
            replace nv1 := nv1.hold H
            replace nvp := nvp.hold H
            replace nl := nl.hold H
            replace nr := nr.hold H
            replace nm := nm.hold H
            replace nn := nn.hold H
            replace nq := nq.hold H
            replace HH := HH.trans H
            clear H
            have H := S.hset 6 1 (.slice ps ls Ks) rfl rfl (by intro q n e; cases e)
            replace S := S.set 6 1 (.slice ps ls Ks) rfl
            replace N1 := N1.hold H
            replace nv1 := nv1.hold H
            replace nvp := nvp.hold H
            replace nl := nl.hold H
            replace nr := nr.hold H
            replace nm := nm.hold H
            replace nn := nn.hold H
            replace nq := nq.hold H
            replace HH := HH.trans H
            clear H
            refine hK.out _ _ ⟨S.c 0 0 rfl rfl, S.c 0 1 rfl rfl⟩ (fun hS => ?_)
            generalize ((w63.setCell ⟨w50.heap.size, 0, none⟩ (.bool (negB zm))).setCell ⟨w50.heap.size, 1, none⟩ (.slice ps ls Ks)) = w64 at S N1 nv1 nvp nl nr nm nn nq HH hS ⊢
            clear hK K
            try simp only [Act.put, List.setIfInBounds_toArray, List.set_cons_zero, List.set_cons_succ]
            refine wpAnyH_ready (rs := [12]) (by kernel_rfl) (by simp) (AllReadyH.cons ((List.getElem?_toArray ..).trans rfl) (fun K hK => ?_) AllReadyH.nil)
            go_simp
            refine hK.out _ _ hS (fun hS => ?_)
            clear hK K
            try simp only [Act.put, List.setIfInBounds_toArray, List.set_cons_zero, List.set_cons_succ]
            refine wpAnyH_done (by kernel_rfl) ?_ _
            go_wp2_with fail
            go_meet
            case rel => exact ⟨w21.heap.size, w50.heap.size, pq, lq, Kq, ps, ls, Ks, rfl, rfl, rfl, Sv.of S [0, 1, 2, 3, 4, 5, 6] rfl, nq, HH⟩
        ·
          go_simp
          clear hS
          have H := S.hnew 25 [.bool false, .slice none 0 0]
          replace S := S.alloc 25 [.bool false, .slice none 0 0] (w21.heap.size)
          replace N1 := N1.hold H
          replace nv1 := nv1.hold H
          replace nvp := nvp.hold H
          replace nl := nl.hold H
          replace nr := nr.hold H
          replace nm := nm.hold H
          replace HH := HH.trans H
          clear H
          refine hK.out _ _ ⟨S.c 0 0 rfl rfl, S.c 0 1 rfl rfl⟩ (fun hS => ?_)
          generalize (w21.alloc (.cells #[.bool false, .slice none 0 0] 25)) = w65 at S N1 nv1 nvp nl nr nm HH hS ⊢
          clear hK K
          try simp only [Act.put, List.setIfInBounds_toArray, List.set_cons_zero, List.set_cons_succ]
          refine wpAnyH_ready (rs := [2, 8]) (by kernel_rfl) (by simp) (AllReadyH.cons ((List.getElem?_toArray ..).trans rfl) (fun K hK => ?_) (AllReadyH.cons ((List.getElem?_toArray ..).trans rfl) (fun K hK => ?_) AllReadyH.nil))
          ·
            go_simp
            clear hS
            refine (S.call (wnat_any nvp (by rw [Nat.one_mul]; exact nb_max B2.out (by decide)) ((2 : Int) ^ k) (by simp))).mono ?_
            clear S
            rintro e w66 ⟨⟨_, rfl, pn, ln, Kn, rfl, nn⟩, S, H⟩
            replace N1 := N1.hold H
            replace nv1 := nv1.hold H
            replace nvp := nvp.hold H
            replace nl := nl.hold H
            replace nr := nr.hold H
            replace nm := nm.hold H
            replace HH := HH.trans H
            clear H
            go_wp2_with fail
            refine hK.out _ _ ⟨S.c 0 0 rfl rfl, S.c 0 1 rfl rfl⟩ (fun hS => ?_)
            clear hK K
            try simp only [Act.put, List.setIfInBounds_toArray, List.set_cons_zero, List.set_cons_succ]
            refine wpAnyH_ready (rs := [3, 8]) (by kernel_rfl) (by simp) (AllReadyH.cons ((List.getElem?_toArray ..).trans rfl) (fun K hK => ?_) (AllReadyH.cons ((List.getElem?_toArray ..).trans rfl) (fun K hK => ?_) AllReadyH.nil))
            ·
              go_simp
              clear hS
              refine (S.call (wdiv_to ⟨_, _, _, by rw [hz1.out], N1⟩ ⟨_, _, _, rfl, nn⟩ (nb_max M1.out (by decide)) (by rw [Int.natAbs_pow]; exact nb_max B2.out (by decide)) zr zm (by have := Int.pow_pos (n := 2) (m := k) (by decide); omega) HZ.out.2.1 HZ.out.2.2.1)).mono ?_
              clear S
              rintro e w67 ⟨⟨_, _, rfl, ⟨pq, lq, Kq, rfl, nq⟩, ⟨ps, ls, Ks, rfl, ns⟩⟩, S, H⟩
              replace N1 := N1.hold H
              replace nv1 := nv1.hold H
              replace nvp := nvp.hold H
              replace nl := nl.hold H
              replace nr := nr.hold H
              replace nm := nm.hold H
              replace nn := nn.hold H
              replace HH := HH.trans H
              clear H
              go_wp2_with fail
              refine hK.out _ _ ⟨S.c 0 0 rfl rfl, S.c 0 1 rfl rfl⟩ (fun hS => ?_)
              clear hK K
              try simp only [Act.put, List.setIfInBounds_toArray, List.set_cons_zero, List.set_cons_succ]
              refine wpAnyH_take (i := 4) (v := ?_) ((List.getElem?_toArray ..).trans rfl) (by kernel_rfl) (by kernel_rfl) (by kernel_rfl) (fun _ _ _ h => h) (Or.inl ⟨rfl, fun W hW => ?_⟩) hS ?_
              rotate_left
              · obtain ⟨hW0, hW1⟩ := hW; go_simp; try first | rfl | kernel_rfl
              try simp only [Act.put, List.setIfInBounds_toArray, List.set_cons_zero, List.set_cons_succ]
              refine wpAnyH_take (i := 5) (v := ?_) ((List.getElem?_toArray ..).trans rfl) (by kernel_rfl) (by kernel_rfl) (by kernel_rfl) (fun _ _ _ h => h) (Or.inl ⟨rfl, fun W hW => ?_⟩) hS ?_
              rotate_left
              · obtain ⟨hW0, hW1⟩ := hW; go_simp; try first | rfl | kernel_rfl
              try simp only [Act.put, List.setIfInBounds_toArray, List.set_cons_zero, List.set_cons_succ]
              refine wpAnyH_take (i := 6) (v := ?_) ((List.getElem?_toArray ..).trans rfl) (by kernel_rfl) (by kernel_rfl) (by kernel_rfl) (fun _ _ _ h => h) (Or.inl ⟨rfl, fun W hW => ?_⟩) hS ?_
              rotate_left
              · obtain ⟨hW0, hW1⟩ := hW; go_simp; try first | rfl | kernel_rfl
              try simp only [Act.put, List.setIfInBounds_toArray, List.set_cons_zero, List.set_cons_succ]
              refine wpAnyH_take (i := 7) (v := ?_) ((List.getElem?_toArray ..).trans rfl) (by kernel_rfl) (by kernel_rfl) (by kernel_rfl) (fun _ _ _ h => h) (Or.inl ⟨rfl, fun W hW => ?_⟩) hS ?_
              rotate_left
              · obtain ⟨hW0, hW1⟩ := hW; go_simp; try first | rfl | kernel_rfl
              try simp only [Act.put, List.setIfInBounds_toArray, List.set_cons_zero, List.set_cons_succ]
              refine wpAnyH_ready (rs := [8]) (by kernel_rfl) (by simp) (AllReadyH.cons ((List.getElem?_toArray ..).trans rfl) (fun K hK => ?_) AllReadyH.nil)
              go_simp
              clear hS
              have H := S.hnew 25 [.bool false, .slice none 0 0]
              replace S := S.alloc 25 [.bool false, .slice none 0 0] (w67.heap.size)
              replace N1 := N1.hold H
              replace nv1 := nv1.hold H
              replace nvp := nvp.hold H
              replace nl := nl.hold H
              replace nr := nr.hold H
              replace nm := nm.hold H
              replace nn := nn.hold H
              replace nq := nq.hold H
              replace HH := HH.trans H
              clear H
              refine hK.out _ _ ⟨S.c 0 0 rfl rfl, S.c 0 1 rfl rfl⟩ (fun hS => ?_)
              generalize (w67.alloc (.cells #[.bool false, .slice none 0 0] 25)) = w68 at S N1 nv1 nvp nl nr nm nn nq HH hS ⊢
              clear hK K
              try simp only [Act.put, List.setIfInBounds_toArray, List.set_cons_zero, List.set_cons_succ]
              refine wpAnyH_ready (rs := [10]) (by kernel_rfl) (by simp) (AllReadyH.cons ((List.getElem?_toArray ..).trans rfl) (fun K hK => ?_) AllReadyH.nil)
              have c0 := S.c 6 0 rfl rfl
              have f0 := S.f 6 0 rfl
              have c1 := S.c 6 1 rfl rfl
              have f1 := S.f 6 1 rfl
              go_simp
              clear hS c0 f0 c1 f1
              have H := S.hset 6 0 (.bool (negB zr)) rfl rfl (by intro q n e; cases e)
              replace S := S.set 6 0 (.bool (negB zr)) rfl
              replace N1 := N1.hold H
              replace nv1 := nv1.hold H
              replace nvp := nvp.hold H
              replace nl := nl.hold H
              replace nr := nr.hold H
              replace nm := nm.hold H
              replace nn := nn.hold H
              replace nq := nq.hold H
              replace HH := HH.trans H
              clear H
              have H := S.hset 6 1 (.slice pq lq Kq) rfl rfl (by intro q n e; cases e)
              replace S := S.set 6 1 (.slice pq lq Kq) rfl
              replace N1 := N1.hold H
              replace nv1 := nv1.hold H
              replace nvp := nvp.hold H
              replace nl := nl.hold H
              replace nr := nr.hold H
              replace nm := nm.hold H
              replace nn := nn.hold H
              replace nq := nq.hold H
              replace HH := HH.trans H
              clear H
              refine hK.out _ _ ⟨S.c 0 0 rfl rfl, S.c 0 1 rfl rfl⟩ (fun hS => ?_)
              generalize ((w68.setCell ⟨w67.heap.size, 0, none⟩ (.bool (negB zr))).setCell ⟨w67.heap.size, 1, none⟩ (.slice pq lq Kq)) = w69 at S N1 nv1 nvp nl nr nm nn nq HH hS ⊢
              clear hK K
              try simp only [Act.put, List.setIfInBounds_toArray, List.set_cons_zero, List.set_cons_succ]
              refine wpAnyH_ready (rs := [11]) (by kernel_rfl) (by simp) (AllReadyH.cons ((List.getElem?_toArray ..).trans rfl) (fun K hK => ?_) AllReadyH.nil)
              have c0 := S.c 5 0 rfl rfl
              have f0 := S.f 5 0 rfl
              have c1 := S.c 5 1 rfl rfl
              have f1 := S.f 5 1 rfl
              go_simp
              clear hS c0 f0 c1 f1
              have H := S.hset 5 0 (.bool (negB zm)) rfl rfl (by intro q n e; cases e)
              replace S := S.set 5 0 (.bool (negB zm)) rfl
              replace N1 := N1.hold H
              replace nv1 := nv1.hold H
              replace nvp := nvp.hold H
              replace nl := nl.hold H
              replace nr := nr.hold H
              replace nm := nm.hold H
              replace nn := nn.hold H
              replace nq := nq.hold H
              replace HH := HH.trans H
              clear H
              have H := S.hset 5 1 (.slice ps ls Ks) rfl rfl (by intro q n e; cases e)
              replace S := S.set 5 1 (.slice ps ls Ks) rfl
              replace N1 := N1.hold H
              replace nv1 := nv1.hold H
              replace nvp := nvp.hold H
              replace nl := nl.hold H
              replace nr := nr.hold H
              replace nm := nm.hold H
              replace nn := nn.hold H
              replace nq := nq.hold H
              replace HH := HH.trans H
              clear H
              refine hK.out _ _ ⟨S.c 0 0 rfl rfl, S.c 0 1 rfl rfl⟩ (fun hS => ?_)
              generalize ((w69.setCell ⟨w21.heap.size, 0, none⟩ (.bool (negB zm))).setCell ⟨w21.heap.size, 1, none⟩ (.slice ps ls Ks)) = w70 at S N1 nv1 nvp nl nr nm nn nq HH hS ⊢
              clear hK K
              try simp only [Act.put, List.setIfInBounds_toArray, List.set_cons_zero, List.set_cons_succ]
              refine wpAnyH_ready (rs := [12]) (by kernel_rfl) (by simp) (AllReadyH.cons ((List.getElem?_toArray ..).trans rfl) (fun K hK => ?_) AllReadyH.nil)
              go_simp
              refine hK.out _ _ hS (fun hS => ?_)
              clear hK K
              try simp only [Act.put, List.setIfInBounds_toArray, List.set_cons_zero, List.set_cons_succ]
              refine wpAnyH_done (by kernel_rfl) ?_ _
              go_wp2_with fail
              go_meet
              case rel => exact ⟨w67.heap.size, w21.heap.size, pq, lq, Kq, ps, ls, Ks, rfl, rfl, rfl, Sv.of S [0, 1, 2, 3, 4, 6, 5] rfl, nq, HH⟩
            ·
              go_simp
              clear hS
              have H := S.hnew 25 [.bool false, .slice none 0 0]
              replace S := S.alloc 25 [.bool false, .slice none 0 0] (w66.heap.size)
              replace N1 := N1.hold H
              replace nv1 := nv1.hold H
              replace nvp := nvp.hold H
              replace nl := nl.hold H
              replace nr := nr.hold H
              replace nm := nm.hold H
              replace nn := nn.hold H
              replace HH := HH.trans H
              clear H
              refine hK.out _ _ ⟨S.c 0 0 rfl rfl, S.c 0 1 rfl rfl⟩ (fun hS => ?_)
              generalize (w66.alloc (.cells #[.bool false, .slice none 0 0] 25)) = w71 at S N1 nv1 nvp nl nr nm nn HH hS ⊢
              clear hK K
              try simp only [Act.put, List.setIfInBounds_toArray, List.set_cons_zero, List.set_cons_succ]
              refine wpAnyH_ready (rs := [3]) (by kernel_rfl) (by simp) (AllReadyH.cons ((List.getElem?_toArray ..).trans rfl) (fun K hK => ?_) AllReadyH.nil)
              go_simp
              clear hS
              refine (S.call (wdiv_to ⟨_, _, _, by rw [hz1.out], N1⟩ ⟨_, _, _, rfl, nn⟩ (nb_max M1.out (by decide)) (by rw [Int.natAbs_pow]; exact nb_max B2.out (by decide)) zr zm (by have := Int.pow_pos (n := 2) (m := k) (by decide); omega) HZ.out.2.1 HZ.out.2.2.1)).mono ?_
              clear S
              rintro e w72 ⟨⟨_, _, rfl, ⟨pq, lq, Kq, rfl, nq⟩, ⟨ps, ls, Ks, rfl, ns⟩⟩, S, H⟩
              replace N1 := N1.hold H
              replace nv1 := nv1.hold H
              replace nvp := nvp.hold H
              replace nl := nl.hold H
              replace nr := nr.hold H
              replace nm := nm.hold H
              replace nn := nn.hold H
              replace HH := HH.trans H
              clear H
              go_wp2_with fail
              refine hK.out _ _ ⟨S.c 0 0 rfl rfl, S.c 0 1 rfl rfl⟩ (fun hS => ?_)
              clear hK K
              try simp only [Act.put, List.setIfInBounds_toArray, List.set_cons_zero, List.set_cons_succ]
              refine wpAnyH_take (i := 4) (v := ?_) ((List.getElem?_toArray ..).trans rfl) (by kernel_rfl) (by kernel_rfl) (by kernel_rfl) (fun _ _ _ h => h) (Or.inl ⟨rfl, fun W hW => ?_⟩) hS ?_
              rotate_left
              · obtain ⟨hW0, hW1⟩ := hW; go_simp; try first | rfl | kernel_rfl
              try simp only [Act.put, List.setIfInBounds_toArray, List.set_cons_zero, List.set_cons_succ]
              refine wpAnyH_take (i := 5) (v := ?_) ((List.getElem?_toArray ..).trans rfl) (by kernel_rfl) (by kernel_rfl) (by kernel_rfl) (fun _ _ _ h => h) (Or.inl ⟨rfl, fun W hW => ?_⟩) hS ?_
              rotate_left
              · obtain ⟨hW0, hW1⟩ := hW; go_simp; try first | rfl | kernel_rfl
              try simp only [Act.put, List.setIfInBounds_toArray, List.set_cons_zero, List.set_cons_succ]
              refine wpAnyH_take (i := 6) (v := ?_) ((List.getElem?_toArray ..).trans rfl) (by kernel_rfl) (by kernel_rfl) (by kernel_rfl) (fun _ _ _ h => h) (Or.inl ⟨rfl, fun W hW => ?_⟩) hS ?_
              rotate_left
              · obtain ⟨hW0, hW1⟩ := hW; go_simp; try first | rfl | kernel_rfl
              try simp only [Act.put, List.setIfInBounds_toArray, List.set_cons_zero, List.set_cons_succ]
              refine wpAnyH_take (i := 7) (v := ?_) ((List.getElem?_toArray ..).trans rfl) (by kernel_rfl) (by kernel_rfl) (by kernel_rfl) (fun _ _ _ h => h) (Or.inl ⟨rfl, fun W hW => ?_⟩) hS ?_
              rotate_left
              · obtain ⟨hW0, hW1⟩ := hW; go_simp; try first | rfl | kernel_rfl
              try simp only [Act.put, List.setIfInBounds_toArray, List.set_cons_zero, List.set_cons_succ]
              refine wpAnyH_ready (rs := [10]) (by kernel_rfl) (by simp) (AllReadyH.cons ((List.getElem?_toArray ..).trans rfl) (fun K hK => ?_) AllReadyH.nil)
              have c0 := S.c 6 0 rfl rfl
              have f0 := S.f 6 0 rfl
              have c1 := S.c 6 1 rfl rfl
              have f1 := S.f 6 1 rfl
              go_simp
              clear hS c0 f0 c1 f1
              have H := S.hset 6 0 (.bool (negB zr)) rfl rfl (by intro q n e; cases e)
              replace S := S.set 6 0 (.bool (negB zr)) rfl
              replace N1 := N1.hold H
              replace nv1 := nv1.hold H
              replace nvp := nvp.hold H
              replace nl := nl.hold H
              replace nr := nr.hold H
              replace nm := nm.hold H
              replace nn := nn.hold H
              replace nq := nq.hold H
              replace HH := HH.trans H
              clear H
              have H := S.hset 6 1 (.slice pq lq Kq) rfl rfl (by intro q n e; cases e)
              replace S := S.set 6 1 (.slice pq lq Kq) rfl
              replace N1 := N1.hold H
              replace nv1 := nv1.hold H
              replace nvp := nvp.hold H
              replace nl := nl.hold H
              replace nr := nr.hold H
              replace nm := nm.hold H
              replace nn := nn.hold H
              replace nq := nq.hold H
              replace HH := HH.trans H
              clear H
              refine hK.out _ _ ⟨S.c 0 0 rfl rfl, S.c 0 1 rfl rfl⟩ (fun hS => ?_)
              generalize ((w72.setCell ⟨w66.heap.size, 0, none⟩ (.bool (negB zr))).setCell ⟨w66.heap.size, 1, none⟩ (.slice pq lq Kq)) = w73 at S N1 nv1 nvp nl nr nm nn nq HH hS ⊢
              clear hK K
              try simp only [Act.put, List.setIfInBounds_toArray, List.set_cons_zero, List.set_cons_succ]
              refine wpAnyH_ready (rs := [11]) (by kernel_rfl) (by simp) (AllReadyH.cons ((List.getElem?_toArray ..).trans rfl) (fun K hK => ?_) AllReadyH.nil)
              have c0 := S.c 5 0 rfl rfl
              have f0 := S.f 5 0 rfl
              have c1 := S.c 5 1 rfl rfl
              have f1 := S.f 5 1 rfl
              go_simp
              clear hS c0 f0 c1 f1
              have H := S.hset 5 0 (.bool (negB zm)) rfl rfl (by intro q n e; cases e)
              replace S := S.set 5 0 (.bool (negB zm)) rfl
              replace N1 := N1.hold H
              replace nv1 := nv1.hold H
              replace nvp := nvp.hold H
              replace nl := nl.hold H
              replace nr := nr.hold H
              replace nm := nm.hold H
              replace nn := nn.hold H
              replace nq := nq.hold H
              replace HH := HH.trans H
              clear H
              have H := S.hset 5 1 (.slice ps ls Ks) rfl rfl (by intro q n e; cases e)
              replace S := S.set 5 1 (.slice ps ls Ks) rfl
              replace N1 := N1.hold H
              replace nv1 := nv1.hold H
              replace nvp := nvp.hold H
              replace nl := nl.hold H
              replace nr := nr.hold H
              replace nm := nm.hold H
              replace nn := nn.hold H
              replace nq := nq.hold H
              replace HH := HH.trans H
              clear H
              refine hK.out _ _ ⟨S.c 0 0 rfl rfl, S.c 0 1 rfl rfl⟩ (fun hS => ?_)
              generalize ((w73.setCell ⟨w21.heap.size, 0, none⟩ (.bool (negB zm))).setCell ⟨w21.heap.size, 1, none⟩ (.slice ps ls Ks)) = w74 at S N1 nv1 nvp nl nr nm nn nq HH hS ⊢
              clear hK K
              try simp only [Act.put, List.setIfInBounds_toArray, List.set_cons_zero, List.set_cons_succ]
              refine wpAnyH_ready (rs := [12]) (by kernel_rfl) (by simp) (AllReadyH.cons ((List.getElem?_toArray ..).trans rfl) (fun K hK => ?_) AllReadyH.nil)
              go_simp
              refine hK.out _ _ hS (fun hS => ?_)
              clear hK K
              try simp only [Act.put, List.setIfInBounds_toArray, List.set_cons_zero, List.set_cons_succ]
              refine wpAnyH_done (by kernel_rfl) ?_ _
              go_wp2_with fail
              go_meet
              case rel => exact ⟨w66.heap.size, w21.heap.size, pq, lq, Kq, ps, ls, Ks, rfl, rfl, rfl, Sv.of S [0, 1, 2, 3, 4, 6, 5] rfl, nq, HH⟩
          ·
            go_simp
            clear hS
            have H := S.hnew 25 [.bool false, .slice none 0 0]
            replace S := S.alloc 25 [.bool false, .slice none 0 0] (w65.heap.size)
            replace N1 := N1.hold H
            replace nv1 := nv1.hold H
            replace nvp := nvp.hold H
            replace nl := nl.hold H
            replace nr := nr.hold H
            replace nm := nm.hold H
            replace HH := HH.trans H
            clear H
            refine hK.out _ _ ⟨S.c 0 0 rfl rfl, S.c 0 1 rfl rfl⟩ (fun hS => ?_)
            generalize (w65.alloc (.cells #[.bool false, .slice none 0 0] 25)) = w75 at S N1 nv1 nvp nl nr nm HH hS ⊢
            clear hK K
            try simp only [Act.put, List.setIfInBounds_toArray, List.set_cons_zero, List.set_cons_succ]
            refine wpAnyH_ready (rs := [2]) (by kernel_rfl) (by simp) (AllReadyH.cons ((List.getElem?_toArray ..).trans rfl) (fun K hK => ?_) AllReadyH.nil)
            go_simp
            clear hS
            refine (S.call (wnat_any nvp (by rw [Nat.one_mul]; exact nb_max B2.out (by decide)) ((2 : Int) ^ k) (by simp))).mono ?_
            clear S
            rintro e w76 ⟨⟨_, rfl, pn, ln, Kn, rfl, nn⟩, S, H⟩
            replace N1 := N1.hold H
            replace nv1 := nv1.hold H
            replace nvp := nvp.hold H
            replace nl := nl.hold H
            replace nr := nr.hold H
            replace nm := nm.hold H
            replace HH := HH.trans H
            clear H
            go_wp2_with fail
            refine hK.out _ _ ⟨S.c 0 0 rfl rfl, S.c 0 1 rfl rfl⟩ (fun hS => ?_)
            clear hK K
            try simp only [Act.put, List.setIfInBounds_toArray, List.set_cons_zero, List.set_cons_succ]
            refine wpAnyH_ready (rs := [3]) (by kernel_rfl) (by simp) (AllReadyH.cons ((List.getElem?_toArray ..).trans rfl) (fun K hK => ?_) AllReadyH.nil)
            go_simp
            clear hS
            refine (S.call (wdiv_to ⟨_, _, _, by rw [hz1.out], N1⟩ ⟨_, _, _, rfl, nn⟩ (nb_max M1.out (by decide)) (by rw [Int.natAbs_pow]; exact nb_max B2.out (by decide)) zr zm (by have := Int.pow_pos (n := 2) (m := k) (by decide); omega) HZ.out.2.1 HZ.out.2.2.1)).mono ?_
            clear S
            rintro e w77 ⟨⟨_, _, rfl, ⟨pq, lq, Kq, rfl, nq⟩, ⟨ps, ls, Ks, rfl, ns⟩⟩, S, H⟩
            replace N1 := N1.hold H
            replace nv1 := nv1.hold H
            replace nvp := nvp.hold H
            replace nl := nl.hold H
            replace nr := nr.hold H
            replace nm := nm.hold H
            replace nn := nn.hold H
            replace HH := HH.trans H
            clear H
            go_wp2_with fail
            refine hK.out _ _ ⟨S.c 0 0 rfl rfl, S.c 0 1 rfl rfl⟩ (fun hS => ?_)
            clear hK K
            try simp only [Act.put, List.setIfInBounds_toArray, List.set_cons_zero, List.set_cons_succ]
            refine wpAnyH_take (i := 4) (v := ?_) ((List.getElem?_toArray ..).trans rfl) (by kernel_rfl) (by kernel_rfl) (by kernel_rfl) (fun _ _ _ h => h) (Or.inl ⟨rfl, fun W hW => ?_⟩) hS ?_
            rotate_left
            · obtain ⟨hW0, hW1⟩ := hW; go_simp; try first | rfl | kernel_rfl
            try simp only [Act.put, List.setIfInBounds_toArray, List.set_cons_zero, List.set_cons_succ]
            refine wpAnyH_take (i := 5) (v := ?_) ((List.getElem?_toArray ..).trans rfl) (by kernel_rfl) (by kernel_rfl) (by kernel_rfl) (fun _ _ _ h => h) (Or.inl ⟨rfl, fun W hW => ?_⟩) hS ?_
            rotate_left
            · obtain ⟨hW0, hW1⟩ := hW; go_simp; try first | rfl | kernel_rfl
            try simp only [Act.put, List.setIfInBounds_toArray, List.set_cons_zero, List.set_cons_succ]
            refine wpAnyH_take (i := 6) (v := ?_) ((List.getElem?_toArray ..).trans rfl) (by kernel_rfl) (by kernel_rfl) (by kernel_rfl) (fun _ _ _ h => h) (Or.inl ⟨rfl, fun W hW => ?_⟩) hS ?_
            rotate_left
            · obtain ⟨hW0, hW1⟩ := hW; go_simp; try first | rfl | kernel_rfl
            try simp only [Act.put, List.setIfInBounds_toArray, List.set_cons_zero, List.set_cons_succ]
            refine wpAnyH_take (i := 7) (v := ?_) ((List.getElem?_toArray ..).trans rfl) (by kernel_rfl) (by kernel_rfl) (by kernel_rfl) (fun _ _ _ h => h) (Or.inl ⟨rfl, fun W hW => ?_⟩) hS ?_
            rotate_left
            · obtain ⟨hW0, hW1⟩ := hW; go_simp; try first | rfl | kernel_rfl
            try simp only [Act.put, List.setIfInBounds_toArray, List.set_cons_zero, List.set_cons_succ]
            refine wpAnyH_ready (rs := [10]) (by kernel_rfl) (by simp) (AllReadyH.cons ((List.getElem?_toArray ..).trans rfl) (fun K hK => ?_) AllReadyH.nil)
            have c0 := S.c 6 0 rfl rfl
            have f0 := S.f 6 0 rfl
            have c1 := S.c 6 1 rfl rfl
            have f1 := S.f 6 1 rfl
            go_simp
            clear hS c0 f0 c1 f1
            have H := S.hset 6 0 (.bool (negB zr)) rfl rfl (by intro q n e; cases e)
            replace S := S.set 6 0 (.bool (negB zr)) rfl
            replace N1 := N1.hold H
            replace nv1 := nv1.hold H
            replace nvp := nvp.hold H
            replace nl := nl.hold H
            replace nr := nr.hold H
            replace nm := nm.hold H
            replace nn := nn.hold H
            replace nq := nq.hold H
            replace HH := HH.trans H
            clear H
            have H := S.hset 6 1 (.slice pq lq Kq) rfl rfl (by intro q n e; cases e)
            replace S := S.set 6 1 (.slice pq lq Kq) rfl
            replace N1 := N1.hold H
            replace nv1 := nv1.hold H
            replace nvp := nvp.hold H
            replace nl := nl.hold H
            replace nr := nr.hold H
            replace nm := nm.hold H
            replace nn := nn.hold H
            replace nq := nq.hold H
            replace HH := HH.trans H
            clear H
            refine hK.out _ _ ⟨S.c 0 0 rfl rfl, S.c 0 1 rfl rfl⟩ (fun hS => ?_)
            generalize ((w77.setCell ⟨w65.heap.size, 0, none⟩ (.bool (negB zr))).setCell ⟨w65.heap.size, 1, none⟩ (.slice pq lq Kq)) = w78 at S N1 nv1 nvp nl nr nm nn nq HH hS ⊢
            clear hK K
            try simp only [Act.put, List.setIfInBounds_toArray, List.set_cons_zero, List.set_cons_succ]
            refine wpAnyH_ready (rs := [11]) (by kernel_rfl) (by simp) (AllReadyH.cons ((List.getElem?_toArray ..).trans rfl) (fun K hK => ?_) AllReadyH.nil)
            have c0 := S.c 5 0 rfl rfl
            have f0 := S.f 5 0 rfl
            have c1 := S.c 5 1 rfl rfl
            have f1 := S.f 5 1 rfl
            go_simp
            clear hS c0 f0 c1 f1
            have H := S.hset 5 0 (.bool (negB zm)) rfl rfl (by intro q n e; cases e)
            replace S := S.set 5 0 (.bool (negB zm)) rfl
            replace N1 := N1.hold H
            replace nv1 := nv1.hold H
            replace nvp := nvp.hold H
            replace nl := nl.hold H
            replace nr := nr.hold H
            replace nm := nm.hold H
            replace nn := nn.hold H
            replace nq := nq.hold H
            replace HH := HH.trans H
            clear H
            have H := S.hset 5 1 (.slice ps ls Ks) rfl rfl (by intro q n e; cases e)
            replace S := S.set 5 1 (.slice ps ls Ks) rfl
            replace N1 := N1.hold H
            replace nv1 := nv1.hold H
            replace nvp := nvp.hold H
            replace nl := nl.hold H
            replace nr := nr.hold H
            replace nm := nm.hold H
            replace nn := nn.hold H
            replace nq := nq.hold H
            replace HH := HH.trans H
            clear H
            refine hK.out _ _ ⟨S.c 0 0 rfl rfl, S.c 0 1 rfl rfl⟩ (fun hS => ?_)
            generalize ((w78.setCell ⟨w21.heap.size, 0, none⟩ (.bool (negB zm))).setCell ⟨w21.heap.size, 1, none⟩ (.slice ps ls Ks)) = w79 at S N1 nv1 nvp nl nr nm nn nq HH hS ⊢
            clear hK K
            try simp only [Act.put, List.setIfInBounds_toArray, List.set_cons_zero, List.set_cons_succ]
            refine wpAnyH_ready (rs := [12]) (by kernel_rfl) (by simp) (AllReadyH.cons ((List.getElem?_toArray ..).trans rfl) (fun K hK => ?_) AllReadyH.nil)
            go_simp
            refine hK.out _ _ hS (fun hS => ?_)
            clear hK K
            try simp only [Act.put, List.setIfInBounds_toArray, List.set_cons_zero, List.set_cons_succ]
            refine wpAnyH_done (by kernel_rfl) ?_ _
            go_wp2_with fail
            go_meet
            case rel => exact ⟨w65.heap.size, w21.heap.size, pq, lq, Kq, ps, ls, Ks, rfl, rfl, rfl, Sv.of S [0, 1, 2, 3, 4, 6, 5] rfl, nq, HH⟩
      case rest =>
        obtain ⟨g13, g14, pq, lq, Kq, ps, ls, Ks, rfl, rfl, rfl, S, nq, HH⟩ := hcut
        obtain ⟨w80, rfl⟩ : ∃ W : World, W = wc := ⟨_, rfl⟩
        replace N1 := N1.hold HH
        replace nv1 := nv1.hold HH
        replace nvp := nvp.hold HH
        replace nl := nl.hold HH
        replace nr := nr.hold HH
        replace nm := nm.hold HH
        clear HH
        have c0_0 := S.c 0 0 rfl rfl
        have c0_1 := S.c 0 1 rfl rfl
        have c2_0 := S.c 2 0 rfl rfl
        have c2_1 := S.c 2 1 rfl rfl
        have c3_0 := S.c 3 0 rfl rfl
        have c3_1 := S.c 3 1 rfl rfl
        have c4_0 := S.c 4 0 rfl rfl
        have c4_1 := S.c 4 1 rfl rfl
        have c5_0 := S.c 5 0 rfl rfl
        have c5_1 := S.c 5 1 rfl rfl
        have c6_0 := S.c 6 0 rfl rfl
        have c6_1 := S.c 6 1 rfl rfl
        go_wp2_with fail
        clear c0_0 c0_1 c2_0 c2_1 c3_0 c3_1 c4_0 c4_1 c5_0 c5_1 c6_0 c6_1
        refine (S.call (wright_any (HT.out.below S.below) ⟨_, _, _, rfl, nl⟩ (nb_max BL2.out (by decide)) k (by have := HK.out; omega) z1 HZ.out.2.2.2)).mono ?_
        clear S
        rintro e w81 ⟨⟨_, rfl, pb, lb, Kb, rfl, nb⟩, S, H⟩
        replace N1 := N1.hold H
        replace nv1 := nv1.hold H
        replace nvp := nvp.hold H
        replace nl := nl.hold H
        replace nr := nr.hold H
        replace nm := nm.hold H
        replace nq := nq.hold H
        clear H
        have c0_0 := S.c 0 0 rfl rfl
        have c0_1 := S.c 0 1 rfl rfl
        have c2_0 := S.c 2 0 rfl rfl
        have c2_1 := S.c 2 1 rfl rfl
        have c3_0 := S.c 3 0 rfl rfl
        have c3_1 := S.c 3 1 rfl rfl
        have c4_0 := S.c 4 0 rfl rfl
        have c4_1 := S.c 4 1 rfl rfl
        have c5_0 := S.c 5 0 rfl rfl
        have c5_1 := S.c 5 1 rfl rfl
        have c6_0 := S.c 6 0 rfl rfl
        have c6_1 := S.c 6 1 rfl rfl
        have H := S.hnew 25 [.bool (negB z1), .slice pb lb Kb]
        replace S := S.alloc 25 [.bool (negB z1), .slice pb lb Kb] (w81.heap.size)
        replace N1 := N1.hold H
        replace nv1 := nv1.hold H
        replace nvp := nvp.hold H
        replace nl := nl.hold H
        replace nr := nr.hold H
        replace nm := nm.hold H
        replace nq := nq.hold H
        replace nb := nb.hold H
        clear H
        clear c0_0 c0_1 c2_0 c2_1 c3_0 c3_1 c4_0 c4_1 c5_0 c5_1 c6_0 c6_1
        have c0_0 := S.c 0 0 rfl rfl
        have c0_1 := S.c 0 1 rfl rfl
        have c2_0 := S.c 2 0 rfl rfl
        have c2_1 := S.c 2 1 rfl rfl
        have c3_0 := S.c 3 0 rfl rfl
        have c3_1 := S.c 3 1 rfl rfl
        have c4_0 := S.c 4 0 rfl rfl
        have c4_1 := S.c 4 1 rfl rfl
        have c5_0 := S.c 5 0 rfl rfl
        have c5_1 := S.c 5 1 rfl rfl
        have c6_0 := S.c 6 0 rfl rfl
        have c6_1 := S.c 6 1 rfl rfl
        have c7_0 := S.c 7 0 rfl rfl
        have c7_1 := S.c 7 1 rfl rfl
        go_wp2_with fail
        clear c0_0 c0_1 c2_0 c2_1 c3_0 c3_1 c4_0 c4_1 c5_0 c5_1 c6_0 c6_1 c7_0 c7_1
        refine (S.call (wsame_any ⟨_, _, _, rfl, nl⟩ ⟨_, _, _, rfl, nm⟩ (nb_max BL2.out (by decide)) (nb_max BL2.out (by decide)) (r := true) (cmp_same zl))).mono ?_
        clear S
        rintro e w82 ⟨rfl, S, H⟩
        replace N1 := N1.hold H
        replace nv1 := nv1.hold H
        replace nvp := nvp.hold H
        replace nl := nl.hold H
        replace nr := nr.hold H
        replace nm := nm.hold H
        replace nq := nq.hold H
        replace nb := nb.hold H
        clear H
        have c0_0 := S.c 0 0 rfl rfl
        have c0_1 := S.c 0 1 rfl rfl
        have c2_0 := S.c 2 0 rfl rfl
        have c2_1 := S.c 2 1 rfl rfl
        have c3_0 := S.c 3 0 rfl rfl
        have c3_1 := S.c 3 1 rfl rfl
        have c4_0 := S.c 4 0 rfl rfl
        have c4_1 := S.c 4 1 rfl rfl
        have c5_0 := S.c 5 0 rfl rfl
        have c5_1 := S.c 5 1 rfl rfl
        have c6_0 := S.c 6 0 rfl rfl
        have c6_1 := S.c 6 1 rfl rfl
        have c7_0 := S.c 7 0 rfl rfl
        have c7_1 := S.c 7 1 rfl rfl
        go_wp2_with fail
        clear c0_0 c0_1 c2_0 c2_1 c3_0 c3_1 c4_0 c4_1 c5_0 c5_1 c6_0 c6_1 c7_0 c7_1
        refine (S.call (wsame_any ⟨_, _, _, rfl, nr⟩ ⟨_, _, _, rfl, nq⟩ (nb_max BR.out (by decide)) (nb_max BR.out (by decide)) (r := true) (cmp_same zr))).mono ?_
        clear S
        rintro e w83 ⟨rfl, S, H⟩
        replace N1 := N1.hold H
        replace nv1 := nv1.hold H
        replace nvp := nvp.hold H
        replace nl := nl.hold H
        replace nr := nr.hold H
        replace nm := nm.hold H
        replace nq := nq.hold H
        replace nb := nb.hold H
        clear H
        have c0_0 := S.c 0 0 rfl rfl
        have c0_1 := S.c 0 1 rfl rfl
        have c2_0 := S.c 2 0 rfl rfl
        have c2_1 := S.c 2 1 rfl rfl
        have c3_0 := S.c 3 0 rfl rfl
        have c3_1 := S.c 3 1 rfl rfl
        have c4_0 := S.c 4 0 rfl rfl
        have c4_1 := S.c 4 1 rfl rfl
        have c5_0 := S.c 5 0 rfl rfl
        have c5_1 := S.c 5 1 rfl rfl
        have c6_0 := S.c 6 0 rfl rfl
        have c6_1 := S.c 6 1 rfl rfl
        have c7_0 := S.c 7 0 rfl rfl
        have c7_1 := S.c 7 1 rfl rfl
        go_wp2_with fail
        clear c0_0 c0_1 c2_0 c2_1 c3_0 c3_1 c4_0 c4_1 c5_0 c5_1 c6_0 c6_1 c7_0 c7_1
        refine (S.call (wsame_any ⟨_, _, _, rfl, nb⟩ ⟨_, _, _, by rw [hz1.out], N1⟩ (nb_max M1.out (by decide)) (nb_max M1.out (by decide)) (r := true) (cmp_same z1))).mono ?_
        clear S
        rintro e w84 ⟨rfl, S, H⟩
        replace N1 := N1.hold H
        replace nv1 := nv1.hold H
        replace nvp := nvp.hold H
        replace nl := nl.hold H
        replace nr := nr.hold H
        replace nm := nm.hold H
        replace nq := nq.hold H
        replace nb := nb.hold H
        clear H
        have c0_0 := S.c 0 0 rfl rfl
        have c0_1 := S.c 0 1 rfl rfl
        have c2_0 := S.c 2 0 rfl rfl
        have c2_1 := S.c 2 1 rfl rfl
        have c3_0 := S.c 3 0 rfl rfl
        have c3_1 := S.c 3 1 rfl rfl
        have c4_0 := S.c 4 0 rfl rfl
        have c4_1 := S.c 4 1 rfl rfl
        have c5_0 := S.c 5 0 rfl rfl
        have c5_1 := S.c 5 1 rfl rfl
        have c6_0 := S.c 6 0 rfl rfl
        have c6_1 := S.c 6 1 rfl rfl
        have c7_0 := S.c 7 0 rfl rfl
        have c7_1 := S.c 7 1 rfl rfl
        go_wp2_with fail
        exact bodyPost_ret (v := .bool true) (by simp [results, Tryd.f6, go_sem]) rfl (⟨rfl, S.below⟩)

end Go.Proofs.YtcopfjooopindaaDoor
