/-
  girdlelaw04.RatioMakes, as a walk: whatever the two numbers, it returns true.
-/
import Derived.Test.YtggnjlbnfgjgdaaM14
import Derived.Test.YtggnjlbnfgjgdaaM20
import Derived.Test.YtggnjlbnfgjgdaaM29

namespace Go.Proofs.Ytggnjlbnfgjgdaa
open Go.RowKit

theorem divInt_cross' {n d : Int} (hd : d ≠ 0) : (Rat.divInt n d).num * d = n * (Rat.divInt n d).den := by
  have h := Rat.num_divInt_den (Rat.divInt n d)
  have hz : ((Rat.divInt n d).den : Int) ≠ 0 := by have := (Rat.divInt n d).den_nz; omega
  exact (Rat.divInt_eq_divInt_iff hz hd).1 h

set_option maxRecDepth 100000 in
set_option maxHeartbeats 16000000 in
theorem ratioMakes_any (b1 : Bool) (p1 : Option Addr) (K1 : Nat) (ds1 : List Nat) (b2 : Bool) (p2 : Option Addr) (K2 : Nat) (ds2 : List Nat) (w : World) (at1 : At .u32 w p1 K1 ds1) (d1 : Dig 4294967296 ds1) (at2 : At .u32 w p2 K2 ds2) (d2 : Dig 4294967296 ds2) :
    Calls Try.prog 3 #[.agg #[.bool b1, .slice p1 ds1.length K1], .agg #[.bool b2, .slice p2 ds2.length K2]] w fun e w' => e = .returned (.bool true) ∧ Below w.heap.size w w' := by
  have HD := Lib.hid (And.intro d1 d2)
  obtain ⟨l1, hl1⟩ : ∃ l, ds1.length = l := ⟨_, rfl⟩
  obtain ⟨l2, hl2⟩ : ∃ l, ds2.length = l := ⟨_, rfl⟩
  have HL := Lib.hid (And.intro hl1 hl2)
  rw [hl1, hl2]
  clear d1 d2 hl1 hl2
  have S := ((St.start w).alloc 25 [.bool b1, .slice p1 l1 K1] (w.heap.size)).alloc 25 [.bool b2, .slice p2 l2 K2] (w.heap.size + 1)
  replace at1 := at1.hold S.hold
  replace at2 := at2.hold S.hold
  have c0_0 := S.c 0 0 rfl rfl
  have c0_1 := S.c 0 1 rfl rfl
  have c1_0 := S.c 1 0 rfl rfl
  have c1_1 := S.c 1 1 rfl rfl
  go_enter Try.func3, Try.ntmps3
  go_wp2_with fail
  clear c0_0 c0_1 c1_0 c1_1
  refine (S.call (parts_any _)).mono ?_
  clear S
  rintro e w1 ⟨rfl, S, H⟩
  replace at1 := at1.hold H
  replace at2 := at2.hold H
  clear H
  have c0_0 := S.c 0 0 rfl rfl
  have c0_1 := S.c 0 1 rfl rfl
  have c1_0 := S.c 1 0 rfl rfl
  have c1_1 := S.c 1 1 rfl rfl
  by_cases h30 : 30 < l1
  · have h30' : (30 : Int) < (l1 : Int) := by omega
    go_wp2_with fail
    exact bodyPost_ret (v := .bool true) (by simp [results, Try.f3, go_sem]) rfl (⟨rfl, S.below⟩)
  · have h30' : ¬ (30 : Int) < (l1 : Int) := by omega
    by_cases h31 : 30 < l2
    · have h31' : (30 : Int) < (l2 : Int) := by omega
      go_wp2_with fail
      exact bodyPost_ret (v := .bool true) (by simp [results, Try.f3, go_sem]) rfl (⟨rfl, S.below⟩)
    · have h31' : ¬ (30 : Int) < (l2 : Int) := by omega
      go_wp2_with fail
      clear c0_0 c0_1 c1_0 c1_1
      refine (S.call (wcheck_raw b1 p1 K1 l1 ds1 _ at1 HD.out.1 HL.out.1 (by omega))).mono ?_
      clear S
      rintro e w2 ⟨⟨c1, rfl, hc1⟩, S, H⟩
      replace at1 := at1.hold H
      replace at2 := at2.hold H
      clear H
      have c0_0 := S.c 0 0 rfl rfl
      have c0_1 := S.c 0 1 rfl rfl
      have c1_0 := S.c 1 0 rfl rfl
      have c1_1 := S.c 1 1 rfl rfl
      by_cases h0 : c1 = 0
      · have h0' : (c1 != 0) = false := by rw [h0]; rfl
        have T1 := Lib.hid (show Tried3 30 b1 ds1 from ⟨by rw [HL.out.1]; omega, (hc1.out h0).1, (hc1.out h0).2⟩)
        clear h0 hc1
        go_wp2_with fail
        clear c0_0 c0_1 c1_0 c1_1
        refine (S.call (wcheck_raw b2 p2 K2 l2 ds2 _ at2 HD.out.2 HL.out.2 (by omega))).mono ?_
        clear S
        rintro e w3 ⟨⟨c2, rfl, hc2⟩, S, H⟩
        replace at1 := at1.hold H
        replace at2 := at2.hold H
        clear H
        have c0_0 := S.c 0 0 rfl rfl
        have c0_1 := S.c 0 1 rfl rfl
        have c1_0 := S.c 1 0 rfl rfl
        have c1_1 := S.c 1 1 rfl rfl
        by_cases h1 : c2 = 0
        · have h1' : (c2 != 0) = false := by rw [h1]; rfl
          have T2 := Lib.hid (show Tried3 30 b2 ds2 from ⟨by rw [HL.out.2]; omega, (hc2.out h1).1, (hc2.out h1).2⟩)
          clear h1 hc2 h30 h31
          obtain ⟨z1, hz1, hm1, N1⟩ := tried_int T1.out HD.out.1 HL.out.1 at1
          obtain ⟨z2, hz2, hm2, N2⟩ := tried_int T2.out HD.out.2 HL.out.2 at2
          have M1 := Lib.hid hm1
          have M2 := Lib.hid hm2
          clear at1 at2
          clear T1 T2 hm1 hm2
          by_cases hz : z2 = 0
          · subst hz
            clear c0_0 c0_1 c1_0 c1_1
            have c0_0 := S.c 0 0 rfl rfl
            have c0_1 := S.c 0 1 rfl rfl
            have c1_0 := S.c 1 0 rfl rfl
            have c1_1 := S.c 1 1 rfl rfl
            go_wp2_with fail
            clear c0_0 c0_1 c1_0 c1_1
            refine (S.call (rmake_zero ⟨_, _, _, by rw [hz1.out], N1⟩ ⟨_, _, _, by rw [hz2.out], N2⟩)).mono ?_
            clear S
            rintro e w4 ⟨⟨_, rfl, b, p, l, K, q, j, J, rfl, hb, nn, dd⟩, S, H⟩
            replace N1 := N1.hold H
            replace N2 := N2.hold H
            clear H
            have c0_0 := S.c 0 0 rfl rfl
            have c0_1 := S.c 0 1 rfl rfl
            have c1_0 := S.c 1 0 rfl rfl
            have c1_1 := S.c 1 1 rfl rfl
            have H := S.hnew 30 [.bool b, .slice p l K, .slice q j J]
            replace S := S.alloc 30 [.bool b, .slice p l K, .slice q j J] (w4.heap.size)
            replace N1 := N1.hold H
            replace N2 := N2.hold H
            replace nn := nn.hold H
            replace dd := dd.hold H
            clear H
            clear c0_0 c0_1 c1_0 c1_1
            have c1_0 := S.c 1 0 rfl rfl
            have c1_1 := S.c 1 1 rfl rfl
            go_wp2_with fail
            clear c1_0 c1_1
            refine (S.call (wsign_any (z := 0) (s := 0) ⟨_, _, _, by rw [hz2.out], N2⟩ (lit_max _ (by decide)) rfl)).mono ?_
            clear S
            rintro e w5 ⟨rfl, S, H⟩
            replace N1 := N1.hold H
            replace N2 := N2.hold H
            replace nn := nn.hold H
            replace dd := dd.hold H
            clear H
            have c1_0 := S.c 1 0 rfl rfl
            have c1_1 := S.c 1 1 rfl rfl
            go_upto_region 7 with fail
            clear c1_0 c1_1
            replace N1 := N1.hold (Hold.drew _)
            replace N2 := N2.hold (Hold.drew _)
            replace nn := nn.hold (Hold.drew _)
            replace dd := dd.hold (Hold.drew _)
            replace S := S.drew
            refine wp_region_held_drew (S := fun W => W.cell? ⟨w4.heap.size, 0, none⟩ = some (.bool b) ∧ W.cell? ⟨w4.heap.size, 1, none⟩ = some (.slice p l K) ∧ W.cell? ⟨w4.heap.size, 2, none⟩ = some (.slice q j J)) (by kernel_rfl) ⟨S.c 2 0 rfl rfl, S.c 2 1 rfl rfl, S.c 2 2 rfl rfl⟩ (fun hS => ?_)
            refine wpAnyH_take (i := 0) (v := ?_) ((List.getElem?_toArray ..).trans rfl) (by kernel_rfl) (by kernel_rfl) (by kernel_rfl) (fun _ _ _ h => h) (Or.inl ⟨rfl, fun W hW => ?_⟩) hS ?_
            rotate_left
            · obtain ⟨hW0, hW1, hW2⟩ := hW; go_simp; try first | rfl | (rw [if_neg (by first | omega | (simp only [ByteArray.size_append]; first | omega | (have h1 : (ByteArray.mk #[47]).size = 1 := rfl; omega)))]; try rfl) | kernel_rfl
            try simp only [Act.put, List.setIfInBounds_toArray, List.set_cons_zero, List.set_cons_succ]
            refine wpAnyH_take (i := 1) (v := ?_) ((List.getElem?_toArray ..).trans rfl) (by kernel_rfl) (by kernel_rfl) (by kernel_rfl) (fun _ _ _ h => h) (Or.inl ⟨rfl, fun W hW => ?_⟩) hS ?_
            rotate_left
            · obtain ⟨hW0, hW1, hW2⟩ := hW; go_simp; try first | rfl | (rw [if_neg (by first | omega | (simp only [ByteArray.size_append]; first | omega | (have h1 : (ByteArray.mk #[47]).size = 1 := rfl; omega)))]; try rfl) | kernel_rfl
            try simp only [Act.put, List.setIfInBounds_toArray, List.set_cons_zero, List.set_cons_succ]
            refine wpAnyH_take (i := 2) (v := ?_) ((List.getElem?_toArray ..).trans rfl) (by kernel_rfl) (by kernel_rfl) (by kernel_rfl) (fun _ _ _ h => h) (Or.inl ⟨rfl, fun W hW => ?_⟩) hS ?_
            rotate_left
            · obtain ⟨hW0, hW1, hW2⟩ := hW; go_simp; try first | rfl | (rw [if_neg (by first | omega | (simp only [ByteArray.size_append]; first | omega | (have h1 : (ByteArray.mk #[47]).size = 1 := rfl; omega)))]; try rfl) | kernel_rfl
            try simp only [Act.put, List.setIfInBounds_toArray, List.set_cons_zero, List.set_cons_succ]
            refine wpAnyH_take (i := 3) (v := ?_) ((List.getElem?_toArray ..).trans rfl) (by kernel_rfl) (by kernel_rfl) (by kernel_rfl) (fun _ _ _ h => h) (Or.inl ⟨rfl, fun W hW => ?_⟩) hS ?_
            rotate_left
            · obtain ⟨hW0, hW1, hW2⟩ := hW; go_simp; try first | rfl | (rw [if_neg (by first | omega | (simp only [ByteArray.size_append]; first | omega | (have h1 : (ByteArray.mk #[47]).size = 1 := rfl; omega)))]; try rfl) | kernel_rfl
            try simp only [Act.put, List.setIfInBounds_toArray, List.set_cons_zero, List.set_cons_succ]
            refine wpAnyH_ready (rs := [4]) (by kernel_rfl) (by simp) (AllReadyH.cons ((List.getElem?_toArray ..).trans rfl) (fun KK hKK => ?_) AllReadyH.nil)
            go_simp
            refine (S.call (rzero_any _)).mono ?_; clear S; rintro e w6 ⟨⟨_, rfl, bz, pz, lz, Kz, qz, jz, Jz, rfl, hz, nz, dz⟩, S, H⟩; replace N1 := N1.hold H; replace N2 := N2.hold H; replace nn := nn.hold H; replace dd := dd.hold H; clear H
            go_wp2_with fail
            refine hKK.out _ _ ⟨S.c 2 0 rfl rfl, S.c 2 1 rfl rfl, S.c 2 2 rfl rfl⟩ (fun hS => ?_)
            clear hKK KK
            try simp only [Act.put, List.setIfInBounds_toArray, List.set_cons_zero, List.set_cons_succ]
            refine wpAnyH_ready (rs := [5]) (by kernel_rfl) (by simp) (AllReadyH.cons ((List.getElem?_toArray ..).trans rfl) (fun KK hKK => ?_) AllReadyH.nil)
            go_simp
            refine (S.call (same_any ⟨b, p, l, K, q, j, J, rfl, hb, nn, dd⟩ ⟨bz, pz, lz, Kz, qz, jz, Jz, rfl, hz, nz, dz⟩ (rb_max rb_zero (by decide)) (rb_max rb_zero (by decide)) (r := true) (by simp))).mono ?_; clear S; rintro e w7 ⟨rfl, S, H⟩; replace N1 := N1.hold H; replace N2 := N2.hold H; replace nn := nn.hold H; replace dd := dd.hold H; replace nz := nz.hold H; replace dz := dz.hold H; clear H
            go_wp2_with fail
            refine hKK.out _ _ ⟨S.c 2 0 rfl rfl, S.c 2 1 rfl rfl, S.c 2 2 rfl rfl⟩ (fun hS => ?_)
            clear hKK KK
            try simp only [Act.put, List.setIfInBounds_toArray, List.set_cons_zero, List.set_cons_succ]
            refine wpAnyH_take (i := 6) (v := ?_) ((List.getElem?_toArray ..).trans rfl) (by kernel_rfl) (by kernel_rfl) (by kernel_rfl) (fun _ _ _ h => h) (Or.inl ⟨rfl, fun W hW => ?_⟩) hS ?_
            rotate_left
            · obtain ⟨hW0, hW1, hW2⟩ := hW; go_simp; try first | rfl | (rw [if_neg (by first | omega | (simp only [ByteArray.size_append]; first | omega | (have h1 : (ByteArray.mk #[47]).size = 1 := rfl; omega)))]; try rfl) | kernel_rfl
            try simp only [Act.put, List.setIfInBounds_toArray, List.set_cons_zero, List.set_cons_succ]
            refine wpAnyH_ready (rs := [7]) (by kernel_rfl) (by simp) (AllReadyH.cons ((List.getElem?_toArray ..).trans rfl) (fun KK hKK => ?_) AllReadyH.nil)
            go_simp
            refine hKK.out _ _ ⟨S.c 2 0 rfl rfl, S.c 2 1 rfl rfl, S.c 2 2 rfl rfl⟩ (fun hS => ?_)
            clear hKK KK
            try simp only [Act.put, List.setIfInBounds_toArray, List.set_cons_zero, List.set_cons_succ]
            refine wpAnyH_done (by kernel_rfl) ?_ _
            go_wp2_with fail
            exact bodyPost_ret (v := .bool true) (by simp [results, Try.f3, go_sem]) rfl (⟨rfl, S.below⟩)
          · obtain ⟨q, hq⟩ : ∃ q, Rat.divInt z1 z2 = q := ⟨_, rfl⟩
            have hqb : RB q 30 := hq ▸ rb_divInt hz M1.out M2.out
            obtain ⟨X, hX⟩ : ∃ X, q.num * z2 = X := ⟨_, rfl⟩
            have hY : z1 * (q.den : Int) = X := by rw [← hX, ← hq]; exact (divInt_cross' hz).symm
            have hXb : X.natAbs < maxN := by rw [← hX, Int.natAbs_mul]; exact nb_max (nb_mul hqb.1 M2.out) (by decide)
            obtain ⟨s, hs⟩ : ∃ s, z2.sign = s := ⟨_, rfl⟩
            have hs1 : (s == 0) = false := by
              rw [← hs]
              simpa using fun h => hz (Int.sign_eq_zero_iff_zero.1 h)
            have HS := Lib.hid hs
            have HZ := Lib.hid hz
            have HQ := Lib.hid (And.intro hq.symm hqb)
            have HX := Lib.hid (And.intro hX (And.intro hY hXb))
            clear hz hq hqb hX hY hXb hs
            clear c0_0 c0_1 c1_0 c1_1
            have c0_0 := S.c 0 0 rfl rfl
            have c0_1 := S.c 0 1 rfl rfl
            have c1_0 := S.c 1 0 rfl rfl
            have c1_1 := S.c 1 1 rfl rfl
            go_wp2_with fail
            clear c0_0 c0_1 c1_0 c1_1
            refine (S.call (rmake_any ⟨_, _, _, by rw [hz1.out], N1⟩ ⟨_, _, _, by rw [hz2.out], N2⟩ (nb_max M1.out (by decide)) (nb_max M2.out (by decide)) HZ.out q HQ.out.1)).mono ?_
            clear S
            rintro e w4 ⟨⟨_, rfl, bM, pM, lM, KM, qM, jM, JM, rfl, hM, nM, dM⟩, S, H⟩
            replace N1 := N1.hold H
            replace N2 := N2.hold H
            clear H
            have c0_0 := S.c 0 0 rfl rfl
            have c0_1 := S.c 0 1 rfl rfl
            have c1_0 := S.c 1 0 rfl rfl
            have c1_1 := S.c 1 1 rfl rfl
            have H := S.hnew 30 [.bool bM, .slice pM lM KM, .slice qM jM JM]
            replace S := S.alloc 30 [.bool bM, .slice pM lM KM, .slice qM jM JM] (w4.heap.size)
            replace N1 := N1.hold H
            replace N2 := N2.hold H
            replace nM := nM.hold H
            replace dM := dM.hold H
            clear H
            clear c0_0 c0_1 c1_0 c1_1
            have c1_0 := S.c 1 0 rfl rfl
            have c1_1 := S.c 1 1 rfl rfl
            go_wp2_with fail
            clear c1_0 c1_1
            refine (S.call (wsign_any ⟨_, _, _, by rw [hz2.out], N2⟩ (nb_max M2.out (by decide)) HS.out)).mono ?_
            clear S
            rintro e w5 ⟨rfl, S, H⟩
            replace N1 := N1.hold H
            replace N2 := N2.hold H
            replace nM := nM.hold H
            replace dM := dM.hold H
            clear H
            have c1_0 := S.c 1 0 rfl rfl
            have c1_1 := S.c 1 1 rfl rfl
            clear c1_0 c1_1
            have c1_0 := S.c 1 0 rfl rfl
            have c1_1 := S.c 1 1 rfl rfl
            have c2_0 := S.c 2 0 rfl rfl
            have c2_1 := S.c 2 1 rfl rfl
            have c2_2 := S.c 2 2 rfl rfl
            go_wp2_with fail
            clear c1_0 c1_1 c2_0 c2_1 c2_2
            refine (S.call (wmul_to ⟨_, _, _, by rw [hM.out], nM⟩ ⟨_, _, _, by rw [hz2.out], N2⟩ (rb_max HQ.out.2 (by decide)).1 (nb_max M2.out (by decide)) X HX.out.1 HX.out.2.2)).mono ?_
            clear S
            rintro e w6 ⟨⟨_, rfl, px, lx, Kx, rfl, nx⟩, S, H⟩
            replace N1 := N1.hold H
            replace N2 := N2.hold H
            replace nM := nM.hold H
            replace dM := dM.hold H
            clear H
            have c1_0 := S.c 1 0 rfl rfl
            have c1_1 := S.c 1 1 rfl rfl
            have c2_0 := S.c 2 0 rfl rfl
            have c2_1 := S.c 2 1 rfl rfl
            have c2_2 := S.c 2 2 rfl rfl
            have H := S.hnew 25 [.bool (negB X), .slice px lx Kx]
            replace S := S.alloc 25 [.bool (negB X), .slice px lx Kx] (w6.heap.size)
            replace N1 := N1.hold H
            replace N2 := N2.hold H
            replace nM := nM.hold H
            replace dM := dM.hold H
            replace nx := nx.hold H
            clear H
            clear c1_0 c1_1 c2_0 c2_1 c2_2
            have c0_0 := S.c 0 0 rfl rfl
            have c0_1 := S.c 0 1 rfl rfl
            have c2_0 := S.c 2 0 rfl rfl
            have c2_1 := S.c 2 1 rfl rfl
            have c2_2 := S.c 2 2 rfl rfl
            go_upto_region 9 with fail
            clear c0_0 c0_1 c2_0 c2_1 c2_2
            generalize (w6.alloc (.cells #[.bool (negB X), .slice px lx Kx] 25)) = w7 at S N1 N2 nM dM nx ⊢
            go_cut [9, 10] (fun s9 s10 wx => ∃ g9 py ly Ky, s9 = .pointer (some ⟨g9, 0, none⟩) ∧ s10 = .int .i64 0 ∧ St w wx [(w.heap.size, 25, [.bool b1, .slice p1 l1 K1]), (w.heap.size + 1, 25, [.bool b2, .slice p2 l2 K2]), (w4.heap.size, 30, [.bool bM, .slice pM lM KM, .slice qM jM JM]), (w6.heap.size, 25, [.bool (negB X), .slice px lx Kx]), (g9, 25, [.bool (negB X), .slice py ly Ky])] ∧ IsNat wx (.slice py ly Ky) X.natAbs ∧ Hold w7 wx)
            case first =>
              have HH := Hold.drew w7
              replace N1 := N1.hold HH
              replace N2 := N2.hold HH
              replace nM := nM.hold HH
              replace dM := dM.hold HH
              replace nx := nx.hold HH
              replace S := S.drew
              refine wp_region_held_drew (S := fun W => W.cell? ⟨w.heap.size, 0, none⟩ = some (.bool b1) ∧ W.cell? ⟨w.heap.size, 1, none⟩ = some (.slice p1 l1 K1) ∧ W.cell? ⟨w4.heap.size, 2, none⟩ = some (.slice qM jM JM)) (by kernel_rfl) ⟨S.c 0 0 rfl rfl, S.c 0 1 rfl rfl, S.c 2 2 rfl rfl⟩ (fun hS => ?_)
              generalize w7.drew = w8 at S N1 N2 nM dM nx HH hS ⊢
              refine wpAnyH_take (i := 0) (v := ?_) ((List.getElem?_toArray ..).trans rfl) (by kernel_rfl) (by kernel_rfl) (by kernel_rfl) (fun _ _ _ h => h) (Or.inl ⟨rfl, fun W hW => ?_⟩) hS ?_
              rotate_left
              · obtain ⟨hW0, hW1, hW2⟩ := hW; go_simp; try first | rfl | (rw [if_neg (by first | omega | (simp only [ByteArray.size_append]; first | omega | (have h1 : (ByteArray.mk #[47]).size = 1 := rfl; omega)))]; try rfl) | kernel_rfl
              try simp only [Act.put, List.setIfInBounds_toArray, List.set_cons_zero, List.set_cons_succ]
              refine wpAnyH_take (i := 1) (v := ?_) ((List.getElem?_toArray ..).trans rfl) (by kernel_rfl) (by kernel_rfl) (by kernel_rfl) (fun _ _ _ h => h) (Or.inl ⟨rfl, fun W hW => ?_⟩) hS ?_
              rotate_left
              · obtain ⟨hW0, hW1, hW2⟩ := hW; go_simp; try first | rfl | (rw [if_neg (by first | omega | (simp only [ByteArray.size_append]; first | omega | (have h1 : (ByteArray.mk #[47]).size = 1 := rfl; omega)))]; try rfl) | kernel_rfl
              try simp only [Act.put, List.setIfInBounds_toArray, List.set_cons_zero, List.set_cons_succ]
              refine wpAnyH_take (i := 2) (v := ?_) ((List.getElem?_toArray ..).trans rfl) (by kernel_rfl) (by kernel_rfl) (by kernel_rfl) (fun _ _ _ h => h) (Or.inl ⟨rfl, fun W hW => ?_⟩) hS ?_
              rotate_left
              · obtain ⟨hW0, hW1, hW2⟩ := hW; go_simp; try first | rfl | (rw [if_neg (by first | omega | (simp only [ByteArray.size_append]; first | omega | (have h1 : (ByteArray.mk #[47]).size = 1 := rfl; omega)))]; try rfl) | kernel_rfl
              try simp only [Act.put, List.setIfInBounds_toArray, List.set_cons_zero, List.set_cons_succ]
              refine wpAnyH_ready (rs := [3, 8]) (by kernel_rfl) (by simp) (AllReadyH.cons ((List.getElem?_toArray ..).trans rfl) (fun KK hKK => ?_) (AllReadyH.cons ((List.getElem?_toArray ..).trans rfl) (fun KK hKK => ?_) AllReadyH.nil))
              ·
                go_simp
                clear hS
                refine (S.call (wnat_any dM (rb_max HQ.out.2 (by decide)).2 (q.den : Int) rfl)).mono ?_
                clear S
                rintro e w9 ⟨⟨_, rfl, pa, la, Ka, rfl, na⟩, S, H⟩
                replace N1 := N1.hold H
                replace N2 := N2.hold H
                replace nM := nM.hold H
                replace dM := dM.hold H
                replace nx := nx.hold H
                replace HH := HH.trans H
                clear H
                go_wp2_with fail
                refine hKK.out _ _ ⟨S.c 0 0 rfl rfl, S.c 0 1 rfl rfl, S.c 2 2 rfl rfl⟩ (fun hS => ?_)
                clear hKK KK
                try simp only [Act.put, List.setIfInBounds_toArray, List.set_cons_zero, List.set_cons_succ]
                refine wpAnyH_ready (rs := [4, 8]) (by kernel_rfl) (by simp) (AllReadyH.cons ((List.getElem?_toArray ..).trans rfl) (fun KK hKK => ?_) (AllReadyH.cons ((List.getElem?_toArray ..).trans rfl) (fun KK hKK => ?_) AllReadyH.nil))
                ·
                  go_simp
                  clear hS
                  refine (S.call (wmul_to ⟨_, _, _, by rw [hz1.out], N1⟩ ⟨_, _, _, rfl, na⟩ (nb_max M1.out (by decide)) (rb_max HQ.out.2 (by decide)).2 X HX.out.2.1 HX.out.2.2)).mono ?_
                  clear S
                  rintro e w10 ⟨⟨_, rfl, py, ly, Ky, rfl, ny⟩, S, H⟩
                  replace N1 := N1.hold H
                  replace N2 := N2.hold H
                  replace nM := nM.hold H
                  replace dM := dM.hold H
                  replace nx := nx.hold H
                  replace na := na.hold H
                  replace HH := HH.trans H
                  clear H
                  go_wp2_with fail
                  refine hKK.out _ _ ⟨S.c 0 0 rfl rfl, S.c 0 1 rfl rfl, S.c 2 2 rfl rfl⟩ (fun hS => ?_)
                  clear hKK KK
                  try simp only [Act.put, List.setIfInBounds_toArray, List.set_cons_zero, List.set_cons_succ]
                  refine wpAnyH_take (i := 5) (v := ?_) ((List.getElem?_toArray ..).trans rfl) (by kernel_rfl) (by kernel_rfl) (by kernel_rfl) (fun _ _ _ h => h) (Or.inl ⟨rfl, fun W hW => ?_⟩) hS ?_
                  rotate_left
                  · obtain ⟨hW0, hW1, hW2⟩ := hW; go_simp; try first | rfl | (rw [if_neg (by first | omega | (simp only [ByteArray.size_append]; first | omega | (have h1 : (ByteArray.mk #[47]).size = 1 := rfl; omega)))]; try rfl) | kernel_rfl
                  try simp only [Act.put, List.setIfInBounds_toArray, List.set_cons_zero, List.set_cons_succ]
                  refine wpAnyH_take (i := 6) (v := ?_) ((List.getElem?_toArray ..).trans rfl) (by kernel_rfl) (by kernel_rfl) (by kernel_rfl) (fun _ _ _ h => h) (Or.inl ⟨rfl, fun W hW => ?_⟩) hS ?_
                  rotate_left
                  · obtain ⟨hW0, hW1, hW2⟩ := hW; go_simp; try first | rfl | (rw [if_neg (by first | omega | (simp only [ByteArray.size_append]; first | omega | (have h1 : (ByteArray.mk #[47]).size = 1 := rfl; omega)))]; try rfl) | kernel_rfl
                  try simp only [Act.put, List.setIfInBounds_toArray, List.set_cons_zero, List.set_cons_succ]
                  refine wpAnyH_take (i := 7) (v := ?_) ((List.getElem?_toArray ..).trans rfl) (by kernel_rfl) (by kernel_rfl) (by kernel_rfl) (fun _ _ _ h => h) (Or.inl ⟨rfl, fun W hW => ?_⟩) hS ?_
                  rotate_left
                  · obtain ⟨hW0, hW1, hW2⟩ := hW; go_simp; try first | rfl | (rw [if_neg (by first | omega | (simp only [ByteArray.size_append]; first | omega | (have h1 : (ByteArray.mk #[47]).size = 1 := rfl; omega)))]; try rfl) | kernel_rfl
                  try simp only [Act.put, List.setIfInBounds_toArray, List.set_cons_zero, List.set_cons_succ]
                  refine wpAnyH_ready (rs := [8]) (by kernel_rfl) (by simp) (AllReadyH.cons ((List.getElem?_toArray ..).trans rfl) (fun KK hKK => ?_) AllReadyH.nil)
                  go_simp
                  clear hS
                  have H := S.hnew 25 [.bool false, .slice none 0 0]
                  replace S := S.alloc 25 [.bool false, .slice none 0 0] (w10.heap.size)
                  replace N1 := N1.hold H
                  replace N2 := N2.hold H
                  replace nM := nM.hold H
                  replace dM := dM.hold H
                  replace nx := nx.hold H
                  replace na := na.hold H
                  replace ny := ny.hold H
                  replace HH := HH.trans H
                  clear H
                  refine hKK.out _ _ ⟨S.c 0 0 rfl rfl, S.c 0 1 rfl rfl, S.c 2 2 rfl rfl⟩ (fun hS => ?_)
                  generalize (w10.alloc (.cells #[.bool false, .slice none 0 0] 25)) = w11 at S N1 N2 nM dM nx na ny HH hS ⊢
                  clear hKK KK
                  try simp only [Act.put, List.setIfInBounds_toArray, List.set_cons_zero, List.set_cons_succ]
                  refine wpAnyH_ready (rs := [9]) (by kernel_rfl) (by simp) (AllReadyH.cons ((List.getElem?_toArray ..).trans rfl) (fun KK hKK => ?_) AllReadyH.nil)
                  have c0 := S.c 4 0 rfl rfl
                  have f0 := S.f 4 0 rfl
                  have c1 := S.c 4 1 rfl rfl
                  have f1 := S.f 4 1 rfl
                  go_simp
                  clear hS c0 f0 c1 f1
                  have H := S.hset 4 0 (.bool (negB X)) rfl rfl (by intro q n e; cases e)
                  replace S := S.set 4 0 (.bool (negB X)) rfl
                  replace N1 := N1.hold H
                  replace N2 := N2.hold H
                  replace nM := nM.hold H
                  replace dM := dM.hold H
                  replace nx := nx.hold H
                  replace na := na.hold H
                  replace ny := ny.hold H
                  replace HH := HH.trans H
                  clear H
                  have H := S.hset 4 1 (.slice py ly Ky) rfl rfl (by intro q n e; cases e)
                  replace S := S.set 4 1 (.slice py ly Ky) rfl
                  replace N1 := N1.hold H
                  replace N2 := N2.hold H
                  replace nM := nM.hold H
                  replace dM := dM.hold H
                  replace nx := nx.hold H
                  replace na := na.hold H
                  replace ny := ny.hold H
                  replace HH := HH.trans H
                  clear H
                  refine hKK.out _ _ ⟨S.c 0 0 rfl rfl, S.c 0 1 rfl rfl, S.c 2 2 rfl rfl⟩ (fun hS => ?_)
                  generalize ((w11.setCell ⟨w10.heap.size, 0, none⟩ (.bool (negB X))).setCell ⟨w10.heap.size, 1, none⟩ (.slice py ly Ky)) = w12 at S N1 N2 nM dM nx na ny HH hS ⊢
                  clear hKK KK
                  try simp only [Act.put, List.setIfInBounds_toArray, List.set_cons_zero, List.set_cons_succ]
                  refine wpAnyH_ready (rs := [10]) (by kernel_rfl) (by simp) (AllReadyH.cons ((List.getElem?_toArray ..).trans rfl) (fun KK hKK => ?_) AllReadyH.nil)
                  go_simp
                  refine hKK.out _ _ hS (fun hS => ?_)
                  clear hKK KK
                  try simp only [Act.put, List.setIfInBounds_toArray, List.set_cons_zero, List.set_cons_succ]
                  refine wpAnyH_done (by kernel_rfl) ?_ _
                  go_wp2_with fail
                  go_meet
                  case rel => exact ⟨w10.heap.size, py, ly, Ky, rfl, rfl, S, ny, HH⟩
                ·
                  go_simp
                  clear hS
                  have H := S.hnew 25 [.bool false, .slice none 0 0]
                  replace S := S.alloc 25 [.bool false, .slice none 0 0] (w9.heap.size)
                  replace N1 := N1.hold H
                  replace N2 := N2.hold H
                  replace nM := nM.hold H
                  replace dM := dM.hold H
                  replace nx := nx.hold H
                  replace na := na.hold H
                  replace HH := HH.trans H
                  clear H
                  refine hKK.out _ _ ⟨S.c 0 0 rfl rfl, S.c 0 1 rfl rfl, S.c 2 2 rfl rfl⟩ (fun hS => ?_)
                  generalize (w9.alloc (.cells #[.bool false, .slice none 0 0] 25)) = w13 at S N1 N2 nM dM nx na HH hS ⊢
                  clear hKK KK
                  try simp only [Act.put, List.setIfInBounds_toArray, List.set_cons_zero, List.set_cons_succ]
                  refine wpAnyH_ready (rs := [4]) (by kernel_rfl) (by simp) (AllReadyH.cons ((List.getElem?_toArray ..).trans rfl) (fun KK hKK => ?_) AllReadyH.nil)
                  go_simp
                  clear hS
                  refine (S.call (wmul_to ⟨_, _, _, by rw [hz1.out], N1⟩ ⟨_, _, _, rfl, na⟩ (nb_max M1.out (by decide)) (rb_max HQ.out.2 (by decide)).2 X HX.out.2.1 HX.out.2.2)).mono ?_
                  clear S
                  rintro e w14 ⟨⟨_, rfl, py, ly, Ky, rfl, ny⟩, S, H⟩
                  replace N1 := N1.hold H
                  replace N2 := N2.hold H
                  replace nM := nM.hold H
                  replace dM := dM.hold H
                  replace nx := nx.hold H
                  replace na := na.hold H
                  replace HH := HH.trans H
                  clear H
                  go_wp2_with fail
                  refine hKK.out _ _ ⟨S.c 0 0 rfl rfl, S.c 0 1 rfl rfl, S.c 2 2 rfl rfl⟩ (fun hS => ?_)
                  clear hKK KK
                  try simp only [Act.put, List.setIfInBounds_toArray, List.set_cons_zero, List.set_cons_succ]
                  refine wpAnyH_take (i := 5) (v := ?_) ((List.getElem?_toArray ..).trans rfl) (by kernel_rfl) (by kernel_rfl) (by kernel_rfl) (fun _ _ _ h => h) (Or.inl ⟨rfl, fun W hW => ?_⟩) hS ?_
                  rotate_left
                  · obtain ⟨hW0, hW1, hW2⟩ := hW; go_simp; try first | rfl | (rw [if_neg (by first | omega | (simp only [ByteArray.size_append]; first | omega | (have h1 : (ByteArray.mk #[47]).size = 1 := rfl; omega)))]; try rfl) | kernel_rfl
                  try simp only [Act.put, List.setIfInBounds_toArray, List.set_cons_zero, List.set_cons_succ]
                  refine wpAnyH_take (i := 6) (v := ?_) ((List.getElem?_toArray ..).trans rfl) (by kernel_rfl) (by kernel_rfl) (by kernel_rfl) (fun _ _ _ h => h) (Or.inl ⟨rfl, fun W hW => ?_⟩) hS ?_
                  rotate_left
                  · obtain ⟨hW0, hW1, hW2⟩ := hW; go_simp; try first | rfl | (rw [if_neg (by first | omega | (simp only [ByteArray.size_append]; first | omega | (have h1 : (ByteArray.mk #[47]).size = 1 := rfl; omega)))]; try rfl) | kernel_rfl
                  try simp only [Act.put, List.setIfInBounds_toArray, List.set_cons_zero, List.set_cons_succ]
                  refine wpAnyH_take (i := 7) (v := ?_) ((List.getElem?_toArray ..).trans rfl) (by kernel_rfl) (by kernel_rfl) (by kernel_rfl) (fun _ _ _ h => h) (Or.inl ⟨rfl, fun W hW => ?_⟩) hS ?_
                  rotate_left
                  · obtain ⟨hW0, hW1, hW2⟩ := hW; go_simp; try first | rfl | (rw [if_neg (by first | omega | (simp only [ByteArray.size_append]; first | omega | (have h1 : (ByteArray.mk #[47]).size = 1 := rfl; omega)))]; try rfl) | kernel_rfl
                  try simp only [Act.put, List.setIfInBounds_toArray, List.set_cons_zero, List.set_cons_succ]
                  refine wpAnyH_ready (rs := [9]) (by kernel_rfl) (by simp) (AllReadyH.cons ((List.getElem?_toArray ..).trans rfl) (fun KK hKK => ?_) AllReadyH.nil)
                  have c0 := S.c 4 0 rfl rfl
                  have f0 := S.f 4 0 rfl
                  have c1 := S.c 4 1 rfl rfl
                  have f1 := S.f 4 1 rfl
                  go_simp
                  clear hS c0 f0 c1 f1
                  have H := S.hset 4 0 (.bool (negB X)) rfl rfl (by intro q n e; cases e)
                  replace S := S.set 4 0 (.bool (negB X)) rfl
                  replace N1 := N1.hold H
                  replace N2 := N2.hold H
                  replace nM := nM.hold H
                  replace dM := dM.hold H
                  replace nx := nx.hold H
                  replace na := na.hold H
                  replace ny := ny.hold H
                  replace HH := HH.trans H
                  clear H
                  have H := S.hset 4 1 (.slice py ly Ky) rfl rfl (by intro q n e; cases e)
                  replace S := S.set 4 1 (.slice py ly Ky) rfl
                  replace N1 := N1.hold H
                  replace N2 := N2.hold H
                  replace nM := nM.hold H
                  replace dM := dM.hold H
                  replace nx := nx.hold H
                  replace na := na.hold H
                  replace ny := ny.hold H
                  replace HH := HH.trans H
                  clear H
                  refine hKK.out _ _ ⟨S.c 0 0 rfl rfl, S.c 0 1 rfl rfl, S.c 2 2 rfl rfl⟩ (fun hS => ?_)
                  generalize ((w14.setCell ⟨w9.heap.size, 0, none⟩ (.bool (negB X))).setCell ⟨w9.heap.size, 1, none⟩ (.slice py ly Ky)) = w15 at S N1 N2 nM dM nx na ny HH hS ⊢
                  clear hKK KK
                  try simp only [Act.put, List.setIfInBounds_toArray, List.set_cons_zero, List.set_cons_succ]
                  refine wpAnyH_ready (rs := [10]) (by kernel_rfl) (by simp) (AllReadyH.cons ((List.getElem?_toArray ..).trans rfl) (fun KK hKK => ?_) AllReadyH.nil)
                  go_simp
                  refine hKK.out _ _ hS (fun hS => ?_)
                  clear hKK KK
                  try simp only [Act.put, List.setIfInBounds_toArray, List.set_cons_zero, List.set_cons_succ]
                  refine wpAnyH_done (by kernel_rfl) ?_ _
                  go_wp2_with fail
                  go_meet
                  case rel => exact ⟨w9.heap.size, py, ly, Ky, rfl, rfl, S, ny, HH⟩
              ·
                go_simp
                clear hS
                have H := S.hnew 25 [.bool false, .slice none 0 0]
                replace S := S.alloc 25 [.bool false, .slice none 0 0] (w8.heap.size)
                replace N1 := N1.hold H
                replace N2 := N2.hold H
                replace nM := nM.hold H
                replace dM := dM.hold H
                replace nx := nx.hold H
                replace HH := HH.trans H
                clear H
                refine hKK.out _ _ ⟨S.c 0 0 rfl rfl, S.c 0 1 rfl rfl, S.c 2 2 rfl rfl⟩ (fun hS => ?_)
                generalize (w8.alloc (.cells #[.bool false, .slice none 0 0] 25)) = w16 at S N1 N2 nM dM nx HH hS ⊢
                clear hKK KK
                try simp only [Act.put, List.setIfInBounds_toArray, List.set_cons_zero, List.set_cons_succ]
                refine wpAnyH_ready (rs := [3]) (by kernel_rfl) (by simp) (AllReadyH.cons ((List.getElem?_toArray ..).trans rfl) (fun KK hKK => ?_) AllReadyH.nil)
                go_simp
                clear hS
                refine (S.call (wnat_any dM (rb_max HQ.out.2 (by decide)).2 (q.den : Int) rfl)).mono ?_
                clear S
                rintro e w17 ⟨⟨_, rfl, pa, la, Ka, rfl, na⟩, S, H⟩
                replace N1 := N1.hold H
                replace N2 := N2.hold H
                replace nM := nM.hold H
                replace dM := dM.hold H
                replace nx := nx.hold H
                replace HH := HH.trans H
                clear H
                go_wp2_with fail
                refine hKK.out _ _ ⟨S.c 0 0 rfl rfl, S.c 0 1 rfl rfl, S.c 2 2 rfl rfl⟩ (fun hS => ?_)
                clear hKK KK
                try simp only [Act.put, List.setIfInBounds_toArray, List.set_cons_zero, List.set_cons_succ]
                refine wpAnyH_ready (rs := [4]) (by kernel_rfl) (by simp) (AllReadyH.cons ((List.getElem?_toArray ..).trans rfl) (fun KK hKK => ?_) AllReadyH.nil)
                go_simp
                clear hS
                refine (S.call (wmul_to ⟨_, _, _, by rw [hz1.out], N1⟩ ⟨_, _, _, rfl, na⟩ (nb_max M1.out (by decide)) (rb_max HQ.out.2 (by decide)).2 X HX.out.2.1 HX.out.2.2)).mono ?_
                clear S
                rintro e w18 ⟨⟨_, rfl, py, ly, Ky, rfl, ny⟩, S, H⟩
                replace N1 := N1.hold H
                replace N2 := N2.hold H
                replace nM := nM.hold H
                replace dM := dM.hold H
                replace nx := nx.hold H
                replace na := na.hold H
                replace HH := HH.trans H
                clear H
                go_wp2_with fail
                refine hKK.out _ _ ⟨S.c 0 0 rfl rfl, S.c 0 1 rfl rfl, S.c 2 2 rfl rfl⟩ (fun hS => ?_)
                clear hKK KK
                try simp only [Act.put, List.setIfInBounds_toArray, List.set_cons_zero, List.set_cons_succ]
                refine wpAnyH_take (i := 5) (v := ?_) ((List.getElem?_toArray ..).trans rfl) (by kernel_rfl) (by kernel_rfl) (by kernel_rfl) (fun _ _ _ h => h) (Or.inl ⟨rfl, fun W hW => ?_⟩) hS ?_
                rotate_left
                · obtain ⟨hW0, hW1, hW2⟩ := hW; go_simp; try first | rfl | (rw [if_neg (by first | omega | (simp only [ByteArray.size_append]; first | omega | (have h1 : (ByteArray.mk #[47]).size = 1 := rfl; omega)))]; try rfl) | kernel_rfl
                try simp only [Act.put, List.setIfInBounds_toArray, List.set_cons_zero, List.set_cons_succ]
                refine wpAnyH_take (i := 6) (v := ?_) ((List.getElem?_toArray ..).trans rfl) (by kernel_rfl) (by kernel_rfl) (by kernel_rfl) (fun _ _ _ h => h) (Or.inl ⟨rfl, fun W hW => ?_⟩) hS ?_
                rotate_left
                · obtain ⟨hW0, hW1, hW2⟩ := hW; go_simp; try first | rfl | (rw [if_neg (by first | omega | (simp only [ByteArray.size_append]; first | omega | (have h1 : (ByteArray.mk #[47]).size = 1 := rfl; omega)))]; try rfl) | kernel_rfl
                try simp only [Act.put, List.setIfInBounds_toArray, List.set_cons_zero, List.set_cons_succ]
                refine wpAnyH_take (i := 7) (v := ?_) ((List.getElem?_toArray ..).trans rfl) (by kernel_rfl) (by kernel_rfl) (by kernel_rfl) (fun _ _ _ h => h) (Or.inl ⟨rfl, fun W hW => ?_⟩) hS ?_
                rotate_left
                · obtain ⟨hW0, hW1, hW2⟩ := hW; go_simp; try first | rfl | (rw [if_neg (by first | omega | (simp only [ByteArray.size_append]; first | omega | (have h1 : (ByteArray.mk #[47]).size = 1 := rfl; omega)))]; try rfl) | kernel_rfl
                try simp only [Act.put, List.setIfInBounds_toArray, List.set_cons_zero, List.set_cons_succ]
                refine wpAnyH_ready (rs := [9]) (by kernel_rfl) (by simp) (AllReadyH.cons ((List.getElem?_toArray ..).trans rfl) (fun KK hKK => ?_) AllReadyH.nil)
                have c0 := S.c 4 0 rfl rfl
                have f0 := S.f 4 0 rfl
                have c1 := S.c 4 1 rfl rfl
                have f1 := S.f 4 1 rfl
                go_simp
                clear hS c0 f0 c1 f1
                have H := S.hset 4 0 (.bool (negB X)) rfl rfl (by intro q n e; cases e)
                replace S := S.set 4 0 (.bool (negB X)) rfl
                replace N1 := N1.hold H
                replace N2 := N2.hold H
                replace nM := nM.hold H
                replace dM := dM.hold H
                replace nx := nx.hold H
                replace na := na.hold H
                replace ny := ny.hold H
                replace HH := HH.trans H
                clear H
                have H := S.hset 4 1 (.slice py ly Ky) rfl rfl (by intro q n e; cases e)
                replace S := S.set 4 1 (.slice py ly Ky) rfl
                replace N1 := N1.hold H
                replace N2 := N2.hold H
                replace nM := nM.hold H
                replace dM := dM.hold H
                replace nx := nx.hold H
                replace na := na.hold H
                replace ny := ny.hold H
                replace HH := HH.trans H
                clear H
                refine hKK.out _ _ ⟨S.c 0 0 rfl rfl, S.c 0 1 rfl rfl, S.c 2 2 rfl rfl⟩ (fun hS => ?_)
                generalize ((w18.setCell ⟨w8.heap.size, 0, none⟩ (.bool (negB X))).setCell ⟨w8.heap.size, 1, none⟩ (.slice py ly Ky)) = w19 at S N1 N2 nM dM nx na ny HH hS ⊢
                clear hKK KK
                try simp only [Act.put, List.setIfInBounds_toArray, List.set_cons_zero, List.set_cons_succ]
                refine wpAnyH_ready (rs := [10]) (by kernel_rfl) (by simp) (AllReadyH.cons ((List.getElem?_toArray ..).trans rfl) (fun KK hKK => ?_) AllReadyH.nil)
                go_simp
                refine hKK.out _ _ hS (fun hS => ?_)
                clear hKK KK
                try simp only [Act.put, List.setIfInBounds_toArray, List.set_cons_zero, List.set_cons_succ]
                refine wpAnyH_done (by kernel_rfl) ?_ _
                go_wp2_with fail
                go_meet
                case rel => exact ⟨w8.heap.size, py, ly, Ky, rfl, rfl, S, ny, HH⟩
            case rest =>
              obtain ⟨g9, py, ly, Ky, rfl, rfl, S, ny, HH⟩ := hcut
              obtain ⟨w20, rfl⟩ : ∃ W : World, W = wc := ⟨_, rfl⟩
              replace N1 := N1.hold HH
              replace N2 := N2.hold HH
              replace nM := nM.hold HH
              replace dM := dM.hold HH
              replace nx := nx.hold HH
              clear HH
              have c2_0 := S.c 2 0 rfl rfl
              have c2_1 := S.c 2 1 rfl rfl
              have c2_2 := S.c 2 2 rfl rfl
              go_wp2_with fail
              clear c2_0 c2_1 c2_2
              refine (S.call (rcheck_any ⟨bM, pM, lM, KM, qM, jM, JM, rfl, hM, nM, dM⟩ (rb_max HQ.out.2 (by decide)))).mono ?_
              clear S
              rintro e w21 ⟨rfl, S, H⟩
              replace N1 := N1.hold H
              replace N2 := N2.hold H
              replace nM := nM.hold H
              replace dM := dM.hold H
              replace nx := nx.hold H
              replace ny := ny.hold H
              clear H
              have c2_0 := S.c 2 0 rfl rfl
              have c2_1 := S.c 2 1 rfl rfl
              have c2_2 := S.c 2 2 rfl rfl
              clear c2_0 c2_1 c2_2
              have c3_0 := S.c 3 0 rfl rfl
              have c3_1 := S.c 3 1 rfl rfl
              have c4_0 := S.c 4 0 rfl rfl
              have c4_1 := S.c 4 1 rfl rfl
              go_wp2_with fail
              clear c3_0 c3_1 c4_0 c4_1
              refine (S.call (wsame_any ⟨_, _, _, rfl, nx⟩ ⟨_, _, _, rfl, ny⟩ HX.out.2.2 HX.out.2.2 (r := true) (cmp_same X))).mono ?_
              clear S
              rintro e w22 ⟨rfl, S, H⟩
              replace N1 := N1.hold H
              replace N2 := N2.hold H
              replace nM := nM.hold H
              replace dM := dM.hold H
              replace nx := nx.hold H
              replace ny := ny.hold H
              clear H
              have c3_0 := S.c 3 0 rfl rfl
              have c3_1 := S.c 3 1 rfl rfl
              have c4_0 := S.c 4 0 rfl rfl
              have c4_1 := S.c 4 1 rfl rfl
              go_wp2_with fail
              exact bodyPost_ret (v := .bool true) (by simp [results, Try.f3, go_sem]) rfl (⟨rfl, S.below⟩)
        · have h1' : (c2 != 0) = true := by simpa using h1
          clear h1 hc2
          go_wp2_with fail
          exact bodyPost_ret (v := .bool true) (by simp [results, Try.f3, go_sem]) rfl (⟨rfl, S.below⟩)
      · have h0' : (c1 != 0) = true := by simpa using h0
        clear h0 hc1
        go_wp2_with fail
        exact bodyPost_ret (v := .bool true) (by simp [results, Try.f3, go_sem]) rfl (⟨rfl, S.below⟩)

end Go.Proofs.Ytggnjlbnfgjgdaa
