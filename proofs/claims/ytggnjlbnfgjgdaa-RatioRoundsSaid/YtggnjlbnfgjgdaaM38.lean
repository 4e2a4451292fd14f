/-
  girdlelaw04.RatioRounds, as a walk: whatever the ratio, it returns true.
-/
import Derived.Test.YtggnjlbnfgjgdaaM20
import Derived.Test.YtggnjlbnfgjgdaaM29

namespace Go.Proofs.Ytggnjlbnfgjgdaa
open Go.RowKit

set_option maxRecDepth 100000 in
set_option maxHeartbeats 16000000 in
theorem ratioRounds_any (bA : Bool) (pA qA : Option Addr) (KA JA : Nat) (dsA esA : List Nat) (w : World) (atA : At .u32 w pA KA dsA) (ctA : At .u32 w qA JA esA) (ddA : Dig 4294967296 dsA) (deA : Dig 4294967296 esA) :
    Calls Try.prog 6 #[.agg #[.bool bA, .slice pA dsA.length KA, .slice qA esA.length JA]] w fun e w' => e = .returned (.bool true) ∧ Below w.heap.size w w' := by
  have HDA := Lib.hid (And.intro ddA deA)
  obtain ⟨lA, hlA⟩ : ∃ l, dsA.length = l := ⟨_, rfl⟩
  obtain ⟨jA, hjA⟩ : ∃ l, esA.length = l := ⟨_, rfl⟩
  have HLA := Lib.hid (And.intro hlA hjA)
  rw [hlA, hjA]
  clear ddA deA hlA hjA
  have S := (St.start w).alloc 30 [.bool bA, .slice pA lA KA, .slice qA jA JA] (w.heap.size)
  replace atA := atA.hold S.hold
  replace ctA := ctA.hold S.hold
  have c0_0 := S.c 0 0 rfl rfl
  have c0_1 := S.c 0 1 rfl rfl
  have c0_2 := S.c 0 2 rfl rfl
  go_enter Try.func6, Try.ntmps6
  go_wp2_with fail
  clear c0_0 c0_1 c0_2
  refine (S.call (parts_any _)).mono ?_
  clear S
  rintro e w1 ⟨rfl, S, H⟩
  replace atA := atA.hold H
  replace ctA := ctA.hold H
  clear H
  have c0_0 := S.c 0 0 rfl rfl
  have c0_1 := S.c 0 1 rfl rfl
  have c0_2 := S.c 0 2 rfl rfl
  have H := S.hnew 30 [.bool bA, .slice pA lA KA, .slice qA jA JA]
  replace S := S.alloc 30 [.bool bA, .slice pA lA KA, .slice qA jA JA] (w1.heap.size)
  replace atA := atA.hold H
  replace ctA := ctA.hold H
  clear H
  go_wp2_with fail
  clear c0_0 c0_1 c0_2
  refine (S.call (rfit_any _ 1 _ _ _ _ _ _ _ _ (S.lt 1 rfl) (by decide) (rraws1 S 1 rfl HLA.out.1 HLA.out.2 atA ctA HDA.out.1 HDA.out.2))).mono ?_
  clear S
  rintro e w2 ⟨⟨ok, rfl, hok⟩, S, H⟩
  replace atA := atA.hold H
  replace ctA := ctA.hold H
  clear H
  have c0_0 := S.c 0 0 rfl rfl
  have c0_1 := S.c 0 1 rfl rfl
  have c0_2 := S.c 0 2 rfl rfl
  cases ok with
  | false =>
    go_wp2_with fail
    exact bodyPost_ret (v := .bool true) (by simp [results, Try.f6, go_sem]) rfl (⟨rfl, S.below⟩)
  | true =>
    have t := hok.out rfl
    obtain ⟨zA, hA, rA, nA, dA⟩ := tried_rat (b := bA) (t 0 (by decide)) HDA.out.1 HDA.out.2 HLA.out.1 HLA.out.2 atA ctA
    have RA := Lib.hid rA
    clear atA ctA
    clear t hok rA
    obtain ⟨zf, hzf⟩ : ∃ z, zA.floor = z := ⟨_, rfl⟩
    obtain ⟨zc, hzc⟩ : ∃ z, zA.ceil = z := ⟨_, rfl⟩
    have hbf : zf.natAbs < NB 20 := by rw [← hzf]; exact floor_nb RA.out
    have hbc : zc.natAbs < NB 20 := by rw [← hzc]; exact ceil_nb RA.out
    obtain ⟨zd, hzd⟩ : ∃ z, zc - zf = z := ⟨_, rfl⟩
    have hbd : zd.natAbs < maxN := by rw [← hzd]; exact nb_max (nbz_sub hbc hbf) (by decide)
    have HF := Lib.hid (And.intro hzf hbf)
    have HC := Lib.hid (And.intro hzc hbc)
    have HD := Lib.hid (And.intro hzd hbd)
    have RF := Lib.hid (rb_whole hbf (by decide))
    have RG := Lib.hid (rb_whole hbc (by decide))
    by_cases h1 : zA.den = 1
    · have hr := rounds_whole h1
      have hcf : cmpR ((zf : Int) : Rat) zA = 0 := by rw [← hzf, hr.1, ← den_one h1]; exact cmpR_eq _
      have hcc : cmpR zA ((zc : Int) : Rat) = 0 := by rw [← hzc, hr.2, ← den_one h1]; exact cmpR_eq _
      have hone : cmpI (zA.den : Int) ((1 : Nat) : Int) = 0 := by rw [h1]; rfl
      have hsame : (cmpI zf zA.num == 0) = true := by rw [← hzf, hr.1]; exact cmp_same _
      have HK := Lib.hid (And.intro hcf (And.intro hcc (And.intro hone hsame)))
      clear hr hcf hcc hone hsame h1 hzf hzc hzd hbf hbc hbd
      clear c0_0 c0_1 c0_2
      have c0_0 := S.c 0 0 rfl rfl
      have c0_1 := S.c 0 1 rfl rfl
      have c0_2 := S.c 0 2 rfl rfl
      go_upto_region 5 with fail
      clear c0_0 c0_1 c0_2
      go_cut [3, 4] (fun s3 s4 wx => ∃ g3 g4 pf lf Kf pc lc Kc, s3 = .pointer (some ⟨g3, 0, none⟩) ∧ s4 = .pointer (some ⟨g4, 0, none⟩) ∧ Sv w wx [(w.heap.size, 30, [.bool bA, .slice pA lA KA, .slice qA jA JA]), (w1.heap.size, 30, [.bool bA, .slice pA lA KA, .slice qA jA JA]), (g3, 25, [.bool (negB zf), .slice pf lf Kf]), (g4, 25, [.bool (negB zc), .slice pc lc Kc])] ∧ IsNat wx (.slice pf lf Kf) zf.natAbs ∧ IsNat wx (.slice pc lc Kc) zc.natAbs ∧ Hold w2 wx)
      case first =>
        have HH := Hold.drew w2
        replace nA := nA.hold HH
        replace dA := dA.hold HH
        replace S := S.drew
        refine wp_region_held_drew (S := fun W => W.cell? ⟨w.heap.size, 0, none⟩ = some (.bool bA) ∧ W.cell? ⟨w.heap.size, 1, none⟩ = some (.slice pA lA KA) ∧ W.cell? ⟨w.heap.size, 2, none⟩ = some (.slice qA jA JA)) (by kernel_rfl) ⟨S.c 0 0 rfl rfl, S.c 0 1 rfl rfl, S.c 0 2 rfl rfl⟩ (fun hS => ?_)
        generalize w2.drew = w3 at S nA dA HH hS ⊢
        refine wpAnyH_take (i := 0) (v := ?_) ((List.getElem?_toArray ..).trans rfl) (by kernel_rfl) (by kernel_rfl) (by kernel_rfl) (fun _ _ _ h => h) (Or.inl ⟨rfl, fun W hW => ?_⟩) hS ?_
        rotate_left
        · obtain ⟨hW0, hW1, hW2⟩ := hW; go_simp; try first | rfl | (rw [if_neg (by first | omega | (simp only [ByteArray.size_append]; first | omega | (have h1 : (ByteArray.mk #[47]).size = 1 := rfl; omega)))]; try rfl) | kernel_rfl
        try simp only [Act.put, List.setIfInBounds_toArray, List.set_cons_zero, List.set_cons_succ]
        refine wpAnyH_take (i := 2) (v := ?_) ((List.getElem?_toArray ..).trans rfl) (by kernel_rfl) (by kernel_rfl) (by kernel_rfl) (fun _ _ _ h => h) (Or.inl ⟨rfl, fun W hW => ?_⟩) hS ?_
        rotate_left
        · obtain ⟨hW0, hW1, hW2⟩ := hW; go_simp; try first | rfl | (rw [if_neg (by first | omega | (simp only [ByteArray.size_append]; first | omega | (have h1 : (ByteArray.mk #[47]).size = 1 := rfl; omega)))]; try rfl) | kernel_rfl
        try simp only [Act.put, List.setIfInBounds_toArray, List.set_cons_zero, List.set_cons_succ]
        refine wpAnyH_ready (rs := [1, 4, 5]) (by kernel_rfl) (by simp) (AllReadyH.cons ((List.getElem?_toArray ..).trans rfl) (fun KK hKK => ?_) (AllReadyH.cons ((List.getElem?_toArray ..).trans rfl) (fun KK hKK => ?_) (AllReadyH.cons ((List.getElem?_toArray ..).trans rfl) (fun KK hKK => ?_) AllReadyH.nil)))
        ·
          go_simp
          clear hS
          refine (S.call (rfloor_any ⟨bA, pA, lA, KA, qA, jA, JA, rfl, hA, nA, dA⟩ (rb_max RA.out (by decide)) zf HF.out.1)).mono ?_
          clear S
          rintro e w4 ⟨⟨_, rfl, pf, lf, Kf, rfl, nf⟩, S, H⟩
          replace nA := nA.hold H
          replace dA := dA.hold H
          replace HH := HH.trans H
          clear H
          go_wp2_with fail
          refine hKK.out _ _ ⟨S.c 0 0 rfl rfl, S.c 0 1 rfl rfl, S.c 0 2 rfl rfl⟩ (fun hS => ?_)
          clear hKK KK
          try simp only [Act.put, List.setIfInBounds_toArray, List.set_cons_zero, List.set_cons_succ]
          refine wpAnyH_ready (rs := [3, 4, 5]) (by kernel_rfl) (by simp) (AllReadyH.cons ((List.getElem?_toArray ..).trans rfl) (fun KK hKK => ?_) (AllReadyH.cons ((List.getElem?_toArray ..).trans rfl) (fun KK hKK => ?_) (AllReadyH.cons ((List.getElem?_toArray ..).trans rfl) (fun KK hKK => ?_) AllReadyH.nil)))
          ·
            go_simp
            clear hS
            refine (S.call (rceil_any ⟨bA, pA, lA, KA, qA, jA, JA, rfl, hA, nA, dA⟩ (rb_max RA.out (by decide)) zc HC.out.1)).mono ?_
            clear S
            rintro e w5 ⟨⟨_, rfl, pc, lc, Kc, rfl, nc⟩, S, H⟩
            replace nA := nA.hold H
            replace dA := dA.hold H
            replace nf := nf.hold H
            replace HH := HH.trans H
            clear H
            go_wp2_with fail
            refine hKK.out _ _ ⟨S.c 0 0 rfl rfl, S.c 0 1 rfl rfl, S.c 0 2 rfl rfl⟩ (fun hS => ?_)
            clear hKK KK
            try simp only [Act.put, List.setIfInBounds_toArray, List.set_cons_zero, List.set_cons_succ]
            refine wpAnyH_ready (rs := [4, 5]) (by kernel_rfl) (by simp) (AllReadyH.cons ((List.getElem?_toArray ..).trans rfl) (fun KK hKK => ?_) (AllReadyH.cons ((List.getElem?_toArray ..).trans rfl) (fun KK hKK => ?_) AllReadyH.nil))
            ·
              go_simp
              clear hS
              have H := S.hnew 25 [.bool false, .slice none 0 0]
              replace S := S.alloc 25 [.bool false, .slice none 0 0] (w5.heap.size)
              replace nA := nA.hold H
              replace dA := dA.hold H
              replace nf := nf.hold H
              replace nc := nc.hold H
              replace HH := HH.trans H
              clear H
              refine hKK.out _ _ ⟨S.c 0 0 rfl rfl, S.c 0 1 rfl rfl, S.c 0 2 rfl rfl⟩ (fun hS => ?_)
              generalize (w5.alloc (.cells #[.bool false, .slice none 0 0] 25)) = w6 at S nA dA nf nc HH hS ⊢
              clear hKK KK
              try simp only [Act.put, List.setIfInBounds_toArray, List.set_cons_zero, List.set_cons_succ]
              refine wpAnyH_ready (rs := [5]) (by kernel_rfl) (by simp) (AllReadyH.cons ((List.getElem?_toArray ..).trans rfl) (fun KK hKK => ?_) AllReadyH.nil)
              go_simp
              clear hS
              have H := S.hnew 25 [.bool false, .slice none 0 0]
              replace S := S.alloc 25 [.bool false, .slice none 0 0] (w6.heap.size)
              replace nA := nA.hold H
              replace dA := dA.hold H
              replace nf := nf.hold H
              replace nc := nc.hold H
              replace HH := HH.trans H
              clear H
              refine hKK.out _ _ ⟨S.c 0 0 rfl rfl, S.c 0 1 rfl rfl, S.c 0 2 rfl rfl⟩ (fun hS => ?_)
              generalize (w6.alloc (.cells #[.bool false, .slice none 0 0] 25)) = w7 at S nA dA nf nc HH hS ⊢
              clear hKK KK
              try simp only [Act.put, List.setIfInBounds_toArray, List.set_cons_zero, List.set_cons_succ]
              refine wpAnyH_ready (rs := [6]) (by kernel_rfl) (by simp) (AllReadyH.cons ((List.getElem?_toArray ..).trans rfl) (fun KK hKK => ?_) AllReadyH.nil)
              have c0 := S.c 2 0 rfl rfl
              have f0 := S.f 2 0 rfl
              have c1 := S.c 2 1 rfl rfl
              have f1 := S.f 2 1 rfl
              go_simp
              clear hS c0 f0 c1 f1
              have H := S.hset 2 0 (.bool (negB zf)) rfl rfl (by intro q n e; cases e)
              replace S := S.set 2 0 (.bool (negB zf)) rfl
              replace nA := nA.hold H
              replace dA := dA.hold H
              replace nf := nf.hold H
              replace nc := nc.hold H
              replace HH := HH.trans H
              clear H
              have H := S.hset 2 1 (.slice pf lf Kf) rfl rfl (by intro q n e; cases e)
              replace S := S.set 2 1 (.slice pf lf Kf) rfl
              replace nA := nA.hold H
              replace dA := dA.hold H
              replace nf := nf.hold H
              replace nc := nc.hold H
              replace HH := HH.trans H
              clear H
              refine hKK.out _ _ ⟨S.c 0 0 rfl rfl, S.c 0 1 rfl rfl, S.c 0 2 rfl rfl⟩ (fun hS => ?_)
              generalize ((w7.setCell ⟨w5.heap.size, 0, none⟩ (.bool (negB zf))).setCell ⟨w5.heap.size, 1, none⟩ (.slice pf lf Kf)) = w8 at S nA dA nf nc HH hS ⊢
              clear hKK KK
              try simp only [Act.put, List.setIfInBounds_toArray, List.set_cons_zero, List.set_cons_succ]
              refine wpAnyH_ready (rs := [7]) (by kernel_rfl) (by simp) (AllReadyH.cons ((List.getElem?_toArray ..).trans rfl) (fun KK hKK => ?_) AllReadyH.nil)
              have c0 := S.c 3 0 rfl rfl
              have f0 := S.f 3 0 rfl
              have c1 := S.c 3 1 rfl rfl
              have f1 := S.f 3 1 rfl
              go_simp
              clear hS c0 f0 c1 f1
              have H := S.hset 3 0 (.bool (negB zc)) rfl rfl (by intro q n e; cases e)
              replace S := S.set 3 0 (.bool (negB zc)) rfl
              replace nA := nA.hold H
              replace dA := dA.hold H
              replace nf := nf.hold H
              replace nc := nc.hold H
              replace HH := HH.trans H
              clear H
              have H := S.hset 3 1 (.slice pc lc Kc) rfl rfl (by intro q n e; cases e)
              replace S := S.set 3 1 (.slice pc lc Kc) rfl
              replace nA := nA.hold H
              replace dA := dA.hold H
              replace nf := nf.hold H
              replace nc := nc.hold H
              replace HH := HH.trans H
              clear H
              refine hKK.out _ _ ⟨S.c 0 0 rfl rfl, S.c 0 1 rfl rfl, S.c 0 2 rfl rfl⟩ (fun hS => ?_)
              generalize ((w8.setCell ⟨w6.heap.size, 0, none⟩ (.bool (negB zc))).setCell ⟨w6.heap.size, 1, none⟩ (.slice pc lc Kc)) = w9 at S nA dA nf nc HH hS ⊢
              clear hKK KK
              try simp only [Act.put, List.setIfInBounds_toArray, List.set_cons_zero, List.set_cons_succ]
              refine wpAnyH_done (by kernel_rfl) ?_ _
              go_wp2_with fail
              go_meet
              case rel => exact ⟨w5.heap.size, w6.heap.size, pf, lf, Kf, pc, lc, Kc, rfl, rfl, Sv.of S [0, 1, 2, 3] rfl, nf, nc, HH⟩
            ·
              go_simp
              clear hS
              have H := S.hnew 25 [.bool false, .slice none 0 0]
              replace S := S.alloc 25 [.bool false, .slice none 0 0] (w5.heap.size)
              replace nA := nA.hold H
              replace dA := dA.hold H
              replace nf := nf.hold H
              replace nc := nc.hold H
              replace HH := HH.trans H
              clear H
              refine hKK.out _ _ ⟨S.c 0 0 rfl rfl, S.c 0 1 rfl rfl, S.c 0 2 rfl rfl⟩ (fun hS => ?_)
              generalize (w5.alloc (.cells #[.bool false, .slice none 0 0] 25)) = w10 at S nA dA nf nc HH hS ⊢
              clear hKK KK
              try simp only [Act.put, List.setIfInBounds_toArray, List.set_cons_zero, List.set_cons_succ]
              refine wpAnyH_ready (rs := [4]) (by kernel_rfl) (by simp) (AllReadyH.cons ((List.getElem?_toArray ..).trans rfl) (fun KK hKK => ?_) AllReadyH.nil)
              go_simp
              clear hS
              have H := S.hnew 25 [.bool false, .slice none 0 0]
              replace S := S.alloc 25 [.bool false, .slice none 0 0] (w10.heap.size)
              replace nA := nA.hold H
              replace dA := dA.hold H
              replace nf := nf.hold H
              replace nc := nc.hold H
              replace HH := HH.trans H
              clear H
              refine hKK.out _ _ ⟨S.c 0 0 rfl rfl, S.c 0 1 rfl rfl, S.c 0 2 rfl rfl⟩ (fun hS => ?_)
              generalize (w10.alloc (.cells #[.bool false, .slice none 0 0] 25)) = w11 at S nA dA nf nc HH hS ⊢
              clear hKK KK
              try simp only [Act.put, List.setIfInBounds_toArray, List.set_cons_zero, List.set_cons_succ]
              refine wpAnyH_ready (rs := [6]) (by kernel_rfl) (by simp) (AllReadyH.cons ((List.getElem?_toArray ..).trans rfl) (fun KK hKK => ?_) AllReadyH.nil)
              have c0 := S.c 3 0 rfl rfl
              have f0 := S.f 3 0 rfl
              have c1 := S.c 3 1 rfl rfl
              have f1 := S.f 3 1 rfl
              go_simp
              clear hS c0 f0 c1 f1
              have H := S.hset 3 0 (.bool (negB zf)) rfl rfl (by intro q n e; cases e)
              replace S := S.set 3 0 (.bool (negB zf)) rfl
              replace nA := nA.hold H
              replace dA := dA.hold H
              replace nf := nf.hold H
              replace nc := nc.hold H
              replace HH := HH.trans H
              clear H
              have H := S.hset 3 1 (.slice pf lf Kf) rfl rfl (by intro q n e; cases e)
              replace S := S.set 3 1 (.slice pf lf Kf) rfl
              replace nA := nA.hold H
              replace dA := dA.hold H
              replace nf := nf.hold H
              replace nc := nc.hold H
              replace HH := HH.trans H
              clear H
              refine hKK.out _ _ ⟨S.c 0 0 rfl rfl, S.c 0 1 rfl rfl, S.c 0 2 rfl rfl⟩ (fun hS => ?_)
              generalize ((w11.setCell ⟨w10.heap.size, 0, none⟩ (.bool (negB zf))).setCell ⟨w10.heap.size, 1, none⟩ (.slice pf lf Kf)) = w12 at S nA dA nf nc HH hS ⊢
              clear hKK KK
              try simp only [Act.put, List.setIfInBounds_toArray, List.set_cons_zero, List.set_cons_succ]
              refine wpAnyH_ready (rs := [7]) (by kernel_rfl) (by simp) (AllReadyH.cons ((List.getElem?_toArray ..).trans rfl) (fun KK hKK => ?_) AllReadyH.nil)
              have c0 := S.c 2 0 rfl rfl
              have f0 := S.f 2 0 rfl
              have c1 := S.c 2 1 rfl rfl
              have f1 := S.f 2 1 rfl
              go_simp
              clear hS c0 f0 c1 f1
              have H := S.hset 2 0 (.bool (negB zc)) rfl rfl (by intro q n e; cases e)
              replace S := S.set 2 0 (.bool (negB zc)) rfl
              replace nA := nA.hold H
              replace dA := dA.hold H
              replace nf := nf.hold H
              replace nc := nc.hold H
              replace HH := HH.trans H
              clear H
              have H := S.hset 2 1 (.slice pc lc Kc) rfl rfl (by intro q n e; cases e)
              replace S := S.set 2 1 (.slice pc lc Kc) rfl
              replace nA := nA.hold H
              replace dA := dA.hold H
              replace nf := nf.hold H
              replace nc := nc.hold H
              replace HH := HH.trans H
              clear H
              refine hKK.out _ _ ⟨S.c 0 0 rfl rfl, S.c 0 1 rfl rfl, S.c 0 2 rfl rfl⟩ (fun hS => ?_)
              generalize ((w12.setCell ⟨w5.heap.size, 0, none⟩ (.bool (negB zc))).setCell ⟨w5.heap.size, 1, none⟩ (.slice pc lc Kc)) = w13 at S nA dA nf nc HH hS ⊢
              clear hKK KK
              try simp only [Act.put, List.setIfInBounds_toArray, List.set_cons_zero, List.set_cons_succ]
              refine wpAnyH_done (by kernel_rfl) ?_ _
              go_wp2_with fail
              go_meet
              case rel => exact ⟨w10.heap.size, w5.heap.size, pf, lf, Kf, pc, lc, Kc, rfl, rfl, Sv.of S [0, 1, 3, 2] rfl, nf, nc, HH⟩
          ·
            go_simp
            clear hS
            have H := S.hnew 25 [.bool false, .slice none 0 0]
            replace S := S.alloc 25 [.bool false, .slice none 0 0] (w4.heap.size)
            replace nA := nA.hold H
            replace dA := dA.hold H
            replace nf := nf.hold H
            replace HH := HH.trans H
            clear H
            refine hKK.out _ _ ⟨S.c 0 0 rfl rfl, S.c 0 1 rfl rfl, S.c 0 2 rfl rfl⟩ (fun hS => ?_)
            generalize (w4.alloc (.cells #[.bool false, .slice none 0 0] 25)) = w14 at S nA dA nf HH hS ⊢
            clear hKK KK
            try simp only [Act.put, List.setIfInBounds_toArray, List.set_cons_zero, List.set_cons_succ]
            refine wpAnyH_ready (rs := [3, 5]) (by kernel_rfl) (by simp) (AllReadyH.cons ((List.getElem?_toArray ..).trans rfl) (fun KK hKK => ?_) (AllReadyH.cons ((List.getElem?_toArray ..).trans rfl) (fun KK hKK => ?_) AllReadyH.nil))
            ·
              go_simp
              clear hS
              refine (S.call (rceil_any ⟨bA, pA, lA, KA, qA, jA, JA, rfl, hA, nA, dA⟩ (rb_max RA.out (by decide)) zc HC.out.1)).mono ?_
              clear S
              rintro e w15 ⟨⟨_, rfl, pc, lc, Kc, rfl, nc⟩, S, H⟩
              replace nA := nA.hold H
              replace dA := dA.hold H
              replace nf := nf.hold H
              replace HH := HH.trans H
              clear H
              go_wp2_with fail
              refine hKK.out _ _ ⟨S.c 0 0 rfl rfl, S.c 0 1 rfl rfl, S.c 0 2 rfl rfl⟩ (fun hS => ?_)
              clear hKK KK
              try simp only [Act.put, List.setIfInBounds_toArray, List.set_cons_zero, List.set_cons_succ]
              refine wpAnyH_ready (rs := [5]) (by kernel_rfl) (by simp) (AllReadyH.cons ((List.getElem?_toArray ..).trans rfl) (fun KK hKK => ?_) AllReadyH.nil)
              go_simp
              clear hS
              have H := S.hnew 25 [.bool false, .slice none 0 0]
              replace S := S.alloc 25 [.bool false, .slice none 0 0] (w15.heap.size)
              replace nA := nA.hold H
              replace dA := dA.hold H
              replace nf := nf.hold H
              replace nc := nc.hold H
              replace HH := HH.trans H
              clear H
              refine hKK.out _ _ ⟨S.c 0 0 rfl rfl, S.c 0 1 rfl rfl, S.c 0 2 rfl rfl⟩ (fun hS => ?_)
              generalize (w15.alloc (.cells #[.bool false, .slice none 0 0] 25)) = w16 at S nA dA nf nc HH hS ⊢
              clear hKK KK
              try simp only [Act.put, List.setIfInBounds_toArray, List.set_cons_zero, List.set_cons_succ]
              refine wpAnyH_ready (rs := [6]) (by kernel_rfl) (by simp) (AllReadyH.cons ((List.getElem?_toArray ..).trans rfl) (fun KK hKK => ?_) AllReadyH.nil)
              have c0 := S.c 2 0 rfl rfl
              have f0 := S.f 2 0 rfl
              have c1 := S.c 2 1 rfl rfl
              have f1 := S.f 2 1 rfl
              go_simp
              clear hS c0 f0 c1 f1
              have H := S.hset 2 0 (.bool (negB zf)) rfl rfl (by intro q n e; cases e)
              replace S := S.set 2 0 (.bool (negB zf)) rfl
              replace nA := nA.hold H
              replace dA := dA.hold H
              replace nf := nf.hold H
              replace nc := nc.hold H
              replace HH := HH.trans H
              clear H
              have H := S.hset 2 1 (.slice pf lf Kf) rfl rfl (by intro q n e; cases e)
              replace S := S.set 2 1 (.slice pf lf Kf) rfl
              replace nA := nA.hold H
              replace dA := dA.hold H
              replace nf := nf.hold H
              replace nc := nc.hold H
              replace HH := HH.trans H
              clear H
              refine hKK.out _ _ ⟨S.c 0 0 rfl rfl, S.c 0 1 rfl rfl, S.c 0 2 rfl rfl⟩ (fun hS => ?_)
              generalize ((w16.setCell ⟨w4.heap.size, 0, none⟩ (.bool (negB zf))).setCell ⟨w4.heap.size, 1, none⟩ (.slice pf lf Kf)) = w17 at S nA dA nf nc HH hS ⊢
              clear hKK KK
              try simp only [Act.put, List.setIfInBounds_toArray, List.set_cons_zero, List.set_cons_succ]
              refine wpAnyH_ready (rs := [7]) (by kernel_rfl) (by simp) (AllReadyH.cons ((List.getElem?_toArray ..).trans rfl) (fun KK hKK => ?_) AllReadyH.nil)
              have c0 := S.c 3 0 rfl rfl
              have f0 := S.f 3 0 rfl
              have c1 := S.c 3 1 rfl rfl
              have f1 := S.f 3 1 rfl
              go_simp
              clear hS c0 f0 c1 f1
              have H := S.hset 3 0 (.bool (negB zc)) rfl rfl (by intro q n e; cases e)
              replace S := S.set 3 0 (.bool (negB zc)) rfl
              replace nA := nA.hold H
              replace dA := dA.hold H
              replace nf := nf.hold H
              replace nc := nc.hold H
              replace HH := HH.trans H
              clear H
              have H := S.hset 3 1 (.slice pc lc Kc) rfl rfl (by intro q n e; cases e)
              replace S := S.set 3 1 (.slice pc lc Kc) rfl
              replace nA := nA.hold H
              replace dA := dA.hold H
              replace nf := nf.hold H
              replace nc := nc.hold H
              replace HH := HH.trans H
              clear H
              refine hKK.out _ _ ⟨S.c 0 0 rfl rfl, S.c 0 1 rfl rfl, S.c 0 2 rfl rfl⟩ (fun hS => ?_)
              generalize ((w17.setCell ⟨w15.heap.size, 0, none⟩ (.bool (negB zc))).setCell ⟨w15.heap.size, 1, none⟩ (.slice pc lc Kc)) = w18 at S nA dA nf nc HH hS ⊢
              clear hKK KK
              try simp only [Act.put, List.setIfInBounds_toArray, List.set_cons_zero, List.set_cons_succ]
              refine wpAnyH_done (by kernel_rfl) ?_ _
              go_wp2_with fail
              go_meet
              case rel => exact ⟨w4.heap.size, w15.heap.size, pf, lf, Kf, pc, lc, Kc, rfl, rfl, Sv.of S [0, 1, 2, 3] rfl, nf, nc, HH⟩
            ·
              go_simp
              clear hS
              have H := S.hnew 25 [.bool false, .slice none 0 0]
              replace S := S.alloc 25 [.bool false, .slice none 0 0] (w14.heap.size)
              replace nA := nA.hold H
              replace dA := dA.hold H
              replace nf := nf.hold H
              replace HH := HH.trans H
              clear H
              refine hKK.out _ _ ⟨S.c 0 0 rfl rfl, S.c 0 1 rfl rfl, S.c 0 2 rfl rfl⟩ (fun hS => ?_)
              generalize (w14.alloc (.cells #[.bool false, .slice none 0 0] 25)) = w19 at S nA dA nf HH hS ⊢
              clear hKK KK
              try simp only [Act.put, List.setIfInBounds_toArray, List.set_cons_zero, List.set_cons_succ]
              refine wpAnyH_ready (rs := [3]) (by kernel_rfl) (by simp) (AllReadyH.cons ((List.getElem?_toArray ..).trans rfl) (fun KK hKK => ?_) AllReadyH.nil)
              go_simp
              clear hS
              refine (S.call (rceil_any ⟨bA, pA, lA, KA, qA, jA, JA, rfl, hA, nA, dA⟩ (rb_max RA.out (by decide)) zc HC.out.1)).mono ?_
              clear S
              rintro e w20 ⟨⟨_, rfl, pc, lc, Kc, rfl, nc⟩, S, H⟩
              replace nA := nA.hold H
              replace dA := dA.hold H
              replace nf := nf.hold H
              replace HH := HH.trans H
              clear H
              go_wp2_with fail
              refine hKK.out _ _ ⟨S.c 0 0 rfl rfl, S.c 0 1 rfl rfl, S.c 0 2 rfl rfl⟩ (fun hS => ?_)
              clear hKK KK
              try simp only [Act.put, List.setIfInBounds_toArray, List.set_cons_zero, List.set_cons_succ]
              refine wpAnyH_ready (rs := [6]) (by kernel_rfl) (by simp) (AllReadyH.cons ((List.getElem?_toArray ..).trans rfl) (fun KK hKK => ?_) AllReadyH.nil)
              have c0 := S.c 2 0 rfl rfl
              have f0 := S.f 2 0 rfl
              have c1 := S.c 2 1 rfl rfl
              have f1 := S.f 2 1 rfl
              go_simp
              clear hS c0 f0 c1 f1
              have H := S.hset 2 0 (.bool (negB zf)) rfl rfl (by intro q n e; cases e)
              replace S := S.set 2 0 (.bool (negB zf)) rfl
              replace nA := nA.hold H
              replace dA := dA.hold H
              replace nf := nf.hold H
              replace nc := nc.hold H
              replace HH := HH.trans H
              clear H
              have H := S.hset 2 1 (.slice pf lf Kf) rfl rfl (by intro q n e; cases e)
              replace S := S.set 2 1 (.slice pf lf Kf) rfl
              replace nA := nA.hold H
              replace dA := dA.hold H
              replace nf := nf.hold H
              replace nc := nc.hold H
              replace HH := HH.trans H
              clear H
              refine hKK.out _ _ ⟨S.c 0 0 rfl rfl, S.c 0 1 rfl rfl, S.c 0 2 rfl rfl⟩ (fun hS => ?_)
              generalize ((w20.setCell ⟨w4.heap.size, 0, none⟩ (.bool (negB zf))).setCell ⟨w4.heap.size, 1, none⟩ (.slice pf lf Kf)) = w21 at S nA dA nf nc HH hS ⊢
              clear hKK KK
              try simp only [Act.put, List.setIfInBounds_toArray, List.set_cons_zero, List.set_cons_succ]
              refine wpAnyH_ready (rs := [7]) (by kernel_rfl) (by simp) (AllReadyH.cons ((List.getElem?_toArray ..).trans rfl) (fun KK hKK => ?_) AllReadyH.nil)
              have c0 := S.c 3 0 rfl rfl
              have f0 := S.f 3 0 rfl
              have c1 := S.c 3 1 rfl rfl
              have f1 := S.f 3 1 rfl
              go_simp
              clear hS c0 f0 c1 f1
              have H := S.hset 3 0 (.bool (negB zc)) rfl rfl (by intro q n e; cases e)
              replace S := S.set 3 0 (.bool (negB zc)) rfl
              replace nA := nA.hold H
              replace dA := dA.hold H
              replace nf := nf.hold H
              replace nc := nc.hold H
              replace HH := HH.trans H
              clear H
              have H := S.hset 3 1 (.slice pc lc Kc) rfl rfl (by intro q n e; cases e)
              replace S := S.set 3 1 (.slice pc lc Kc) rfl
              replace nA := nA.hold H
              replace dA := dA.hold H
              replace nf := nf.hold H
              replace nc := nc.hold H
              replace HH := HH.trans H
              clear H
              refine hKK.out _ _ ⟨S.c 0 0 rfl rfl, S.c 0 1 rfl rfl, S.c 0 2 rfl rfl⟩ (fun hS => ?_)
              generalize ((w21.setCell ⟨w14.heap.size, 0, none⟩ (.bool (negB zc))).setCell ⟨w14.heap.size, 1, none⟩ (.slice pc lc Kc)) = w22 at S nA dA nf nc HH hS ⊢
              clear hKK KK
              try simp only [Act.put, List.setIfInBounds_toArray, List.set_cons_zero, List.set_cons_succ]
              refine wpAnyH_done (by kernel_rfl) ?_ _
              go_wp2_with fail
              go_meet
              case rel => exact ⟨w4.heap.size, w14.heap.size, pf, lf, Kf, pc, lc, Kc, rfl, rfl, Sv.of S [0, 1, 2, 3] rfl, nf, nc, HH⟩
          ·
            go_simp
            clear hS
            have H := S.hnew 25 [.bool false, .slice none 0 0]
            replace S := S.alloc 25 [.bool false, .slice none 0 0] (w4.heap.size)
            replace nA := nA.hold H
            replace dA := dA.hold H
            replace nf := nf.hold H
            replace HH := HH.trans H
            clear H
            refine hKK.out _ _ ⟨S.c 0 0 rfl rfl, S.c 0 1 rfl rfl, S.c 0 2 rfl rfl⟩ (fun hS => ?_)
            generalize (w4.alloc (.cells #[.bool false, .slice none 0 0] 25)) = w23 at S nA dA nf HH hS ⊢
            clear hKK KK
            try simp only [Act.put, List.setIfInBounds_toArray, List.set_cons_zero, List.set_cons_succ]
            refine wpAnyH_ready (rs := [3, 4]) (by kernel_rfl) (by simp) (AllReadyH.cons ((List.getElem?_toArray ..).trans rfl) (fun KK hKK => ?_) (AllReadyH.cons ((List.getElem?_toArray ..).trans rfl) (fun KK hKK => ?_) AllReadyH.nil))
            ·
              go_simp
              clear hS
              refine (S.call (rceil_any ⟨bA, pA, lA, KA, qA, jA, JA, rfl, hA, nA, dA⟩ (rb_max RA.out (by decide)) zc HC.out.1)).mono ?_
              clear S
              rintro e w24 ⟨⟨_, rfl, pc, lc, Kc, rfl, nc⟩, S, H⟩
              replace nA := nA.hold H
              replace dA := dA.hold H
              replace nf := nf.hold H
              replace HH := HH.trans H
              clear H
              go_wp2_with fail
              refine hKK.out _ _ ⟨S.c 0 0 rfl rfl, S.c 0 1 rfl rfl, S.c 0 2 rfl rfl⟩ (fun hS => ?_)
              clear hKK KK
              try simp only [Act.put, List.setIfInBounds_toArray, List.set_cons_zero, List.set_cons_succ]
              refine wpAnyH_ready (rs := [4]) (by kernel_rfl) (by simp) (AllReadyH.cons ((List.getElem?_toArray ..).trans rfl) (fun KK hKK => ?_) AllReadyH.nil)
              go_simp
              clear hS
              have H := S.hnew 25 [.bool false, .slice none 0 0]
              replace S := S.alloc 25 [.bool false, .slice none 0 0] (w24.heap.size)
              replace nA := nA.hold H
              replace dA := dA.hold H
              replace nf := nf.hold H
              replace nc := nc.hold H
              replace HH := HH.trans H
              clear H
              refine hKK.out _ _ ⟨S.c 0 0 rfl rfl, S.c 0 1 rfl rfl, S.c 0 2 rfl rfl⟩ (fun hS => ?_)
              generalize (w24.alloc (.cells #[.bool false, .slice none 0 0] 25)) = w25 at S nA dA nf nc HH hS ⊢
              clear hKK KK
              try simp only [Act.put, List.setIfInBounds_toArray, List.set_cons_zero, List.set_cons_succ]
              refine wpAnyH_ready (rs := [6]) (by kernel_rfl) (by simp) (AllReadyH.cons ((List.getElem?_toArray ..).trans rfl) (fun KK hKK => ?_) AllReadyH.nil)
              have c0 := S.c 3 0 rfl rfl
              have f0 := S.f 3 0 rfl
              have c1 := S.c 3 1 rfl rfl
              have f1 := S.f 3 1 rfl
              go_simp
              clear hS c0 f0 c1 f1
              have H := S.hset 3 0 (.bool (negB zf)) rfl rfl (by intro q n e; cases e)
              replace S := S.set 3 0 (.bool (negB zf)) rfl
              replace nA := nA.hold H
              replace dA := dA.hold H
              replace nf := nf.hold H
              replace nc := nc.hold H
              replace HH := HH.trans H
              clear H
              have H := S.hset 3 1 (.slice pf lf Kf) rfl rfl (by intro q n e; cases e)
              replace S := S.set 3 1 (.slice pf lf Kf) rfl
              replace nA := nA.hold H
              replace dA := dA.hold H
              replace nf := nf.hold H
              replace nc := nc.hold H
              replace HH := HH.trans H
              clear H
              refine hKK.out _ _ ⟨S.c 0 0 rfl rfl, S.c 0 1 rfl rfl, S.c 0 2 rfl rfl⟩ (fun hS => ?_)
              generalize ((w25.setCell ⟨w24.heap.size, 0, none⟩ (.bool (negB zf))).setCell ⟨w24.heap.size, 1, none⟩ (.slice pf lf Kf)) = w26 at S nA dA nf nc HH hS ⊢
              clear hKK KK
              try simp only [Act.put, List.setIfInBounds_toArray, List.set_cons_zero, List.set_cons_succ]
              refine wpAnyH_ready (rs := [7]) (by kernel_rfl) (by simp) (AllReadyH.cons ((List.getElem?_toArray ..).trans rfl) (fun KK hKK => ?_) AllReadyH.nil)
              have c0 := S.c 2 0 rfl rfl
              have f0 := S.f 2 0 rfl
              have c1 := S.c 2 1 rfl rfl
              have f1 := S.f 2 1 rfl
              go_simp
              clear hS c0 f0 c1 f1
              have H := S.hset 2 0 (.bool (negB zc)) rfl rfl (by intro q n e; cases e)
              replace S := S.set 2 0 (.bool (negB zc)) rfl
              replace nA := nA.hold H
              replace dA := dA.hold H
              replace nf := nf.hold H
              replace nc := nc.hold H
              replace HH := HH.trans H
              clear H
              have H := S.hset 2 1 (.slice pc lc Kc) rfl rfl (by intro q n e; cases e)
              replace S := S.set 2 1 (.slice pc lc Kc) rfl
              replace nA := nA.hold H
              replace dA := dA.hold H
              replace nf := nf.hold H
              replace nc := nc.hold H
              replace HH := HH.trans H
              clear H
              refine hKK.out _ _ ⟨S.c 0 0 rfl rfl, S.c 0 1 rfl rfl, S.c 0 2 rfl rfl⟩ (fun hS => ?_)
              generalize ((w26.setCell ⟨w4.heap.size, 0, none⟩ (.bool (negB zc))).setCell ⟨w4.heap.size, 1, none⟩ (.slice pc lc Kc)) = w27 at S nA dA nf nc HH hS ⊢
              clear hKK KK
              try simp only [Act.put, List.setIfInBounds_toArray, List.set_cons_zero, List.set_cons_succ]
              refine wpAnyH_done (by kernel_rfl) ?_ _
              go_wp2_with fail
              go_meet
              case rel => exact ⟨w24.heap.size, w4.heap.size, pf, lf, Kf, pc, lc, Kc, rfl, rfl, Sv.of S [0, 1, 3, 2] rfl, nf, nc, HH⟩
            ·
              go_simp
              clear hS
              have H := S.hnew 25 [.bool false, .slice none 0 0]
              replace S := S.alloc 25 [.bool false, .slice none 0 0] (w23.heap.size)
              replace nA := nA.hold H
              replace dA := dA.hold H
              replace nf := nf.hold H
              replace HH := HH.trans H
              clear H
              refine hKK.out _ _ ⟨S.c 0 0 rfl rfl, S.c 0 1 rfl rfl, S.c 0 2 rfl rfl⟩ (fun hS => ?_)
              generalize (w23.alloc (.cells #[.bool false, .slice none 0 0] 25)) = w28 at S nA dA nf HH hS ⊢
              clear hKK KK
              try simp only [Act.put, List.setIfInBounds_toArray, List.set_cons_zero, List.set_cons_succ]
              refine wpAnyH_ready (rs := [3]) (by kernel_rfl) (by simp) (AllReadyH.cons ((List.getElem?_toArray ..).trans rfl) (fun KK hKK => ?_) AllReadyH.nil)
              go_simp
              clear hS
              refine (S.call (rceil_any ⟨bA, pA, lA, KA, qA, jA, JA, rfl, hA, nA, dA⟩ (rb_max RA.out (by decide)) zc HC.out.1)).mono ?_
              clear S
              rintro e w29 ⟨⟨_, rfl, pc, lc, Kc, rfl, nc⟩, S, H⟩
              replace nA := nA.hold H
              replace dA := dA.hold H
              replace nf := nf.hold H
              replace HH := HH.trans H
              clear H
              go_wp2_with fail
              refine hKK.out _ _ ⟨S.c 0 0 rfl rfl, S.c 0 1 rfl rfl, S.c 0 2 rfl rfl⟩ (fun hS => ?_)
              clear hKK KK
              try simp only [Act.put, List.setIfInBounds_toArray, List.set_cons_zero, List.set_cons_succ]
              refine wpAnyH_ready (rs := [6]) (by kernel_rfl) (by simp) (AllReadyH.cons ((List.getElem?_toArray ..).trans rfl) (fun KK hKK => ?_) AllReadyH.nil)
              have c0 := S.c 3 0 rfl rfl
              have f0 := S.f 3 0 rfl
              have c1 := S.c 3 1 rfl rfl
              have f1 := S.f 3 1 rfl
              go_simp
              clear hS c0 f0 c1 f1
              have H := S.hset 3 0 (.bool (negB zf)) rfl rfl (by intro q n e; cases e)
              replace S := S.set 3 0 (.bool (negB zf)) rfl
              replace nA := nA.hold H
              replace dA := dA.hold H
              replace nf := nf.hold H
              replace nc := nc.hold H
              replace HH := HH.trans H
              clear H
              have H := S.hset 3 1 (.slice pf lf Kf) rfl rfl (by intro q n e; cases e)
              replace S := S.set 3 1 (.slice pf lf Kf) rfl
              replace nA := nA.hold H
              replace dA := dA.hold H
              replace nf := nf.hold H
              replace nc := nc.hold H
              replace HH := HH.trans H
              clear H
              refine hKK.out _ _ ⟨S.c 0 0 rfl rfl, S.c 0 1 rfl rfl, S.c 0 2 rfl rfl⟩ (fun hS => ?_)
              generalize ((w29.setCell ⟨w23.heap.size, 0, none⟩ (.bool (negB zf))).setCell ⟨w23.heap.size, 1, none⟩ (.slice pf lf Kf)) = w30 at S nA dA nf nc HH hS ⊢
              clear hKK KK
              try simp only [Act.put, List.setIfInBounds_toArray, List.set_cons_zero, List.set_cons_succ]
              refine wpAnyH_ready (rs := [7]) (by kernel_rfl) (by simp) (AllReadyH.cons ((List.getElem?_toArray ..).trans rfl) (fun KK hKK => ?_) AllReadyH.nil)
              have c0 := S.c 2 0 rfl rfl
              have f0 := S.f 2 0 rfl
              have c1 := S.c 2 1 rfl rfl
              have f1 := S.f 2 1 rfl
              go_simp
              clear hS c0 f0 c1 f1
              have H := S.hset 2 0 (.bool (negB zc)) rfl rfl (by intro q n e; cases e)
              replace S := S.set 2 0 (.bool (negB zc)) rfl
              replace nA := nA.hold H
              replace dA := dA.hold H
              replace nf := nf.hold H
              replace nc := nc.hold H
              replace HH := HH.trans H
              clear H
              have H := S.hset 2 1 (.slice pc lc Kc) rfl rfl (by intro q n e; cases e)
              replace S := S.set 2 1 (.slice pc lc Kc) rfl
              replace nA := nA.hold H
              replace dA := dA.hold H
              replace nf := nf.hold H
              replace nc := nc.hold H
              replace HH := HH.trans H
              clear H
              refine hKK.out _ _ ⟨S.c 0 0 rfl rfl, S.c 0 1 rfl rfl, S.c 0 2 rfl rfl⟩ (fun hS => ?_)
              generalize ((w30.setCell ⟨w4.heap.size, 0, none⟩ (.bool (negB zc))).setCell ⟨w4.heap.size, 1, none⟩ (.slice pc lc Kc)) = w31 at S nA dA nf nc HH hS ⊢
              clear hKK KK
              try simp only [Act.put, List.setIfInBounds_toArray, List.set_cons_zero, List.set_cons_succ]
              refine wpAnyH_done (by kernel_rfl) ?_ _
              go_wp2_with fail
              go_meet
              case rel => exact ⟨w23.heap.size, w4.heap.size, pf, lf, Kf, pc, lc, Kc, rfl, rfl, Sv.of S [0, 1, 3, 2] rfl, nf, nc, HH⟩
        ·
          go_simp
          clear hS
          have H := S.hnew 25 [.bool false, .slice none 0 0]
          replace S := S.alloc 25 [.bool false, .slice none 0 0] (w3.heap.size)
          replace nA := nA.hold H
          replace dA := dA.hold H
          replace HH := HH.trans H
          clear H
          refine hKK.out _ _ ⟨S.c 0 0 rfl rfl, S.c 0 1 rfl rfl, S.c 0 2 rfl rfl⟩ (fun hS => ?_)
          generalize (w3.alloc (.cells #[.bool false, .slice none 0 0] 25)) = w32 at S nA dA HH hS ⊢
          clear hKK KK
          try simp only [Act.put, List.setIfInBounds_toArray, List.set_cons_zero, List.set_cons_succ]
          refine wpAnyH_ready (rs := [1, 5]) (by kernel_rfl) (by simp) (AllReadyH.cons ((List.getElem?_toArray ..).trans rfl) (fun KK hKK => ?_) (AllReadyH.cons ((List.getElem?_toArray ..).trans rfl) (fun KK hKK => ?_) AllReadyH.nil))
          ·
            go_simp
            clear hS
            refine (S.call (rfloor_any ⟨bA, pA, lA, KA, qA, jA, JA, rfl, hA, nA, dA⟩ (rb_max RA.out (by decide)) zf HF.out.1)).mono ?_
            clear S
            rintro e w33 ⟨⟨_, rfl, pf, lf, Kf, rfl, nf⟩, S, H⟩
            replace nA := nA.hold H
            replace dA := dA.hold H
            replace HH := HH.trans H
            clear H
            go_wp2_with fail
            refine hKK.out _ _ ⟨S.c 0 0 rfl rfl, S.c 0 1 rfl rfl, S.c 0 2 rfl rfl⟩ (fun hS => ?_)
            clear hKK KK
            try simp only [Act.put, List.setIfInBounds_toArray, List.set_cons_zero, List.set_cons_succ]
            refine wpAnyH_ready (rs := [3, 5]) (by kernel_rfl) (by simp) (AllReadyH.cons ((List.getElem?_toArray ..).trans rfl) (fun KK hKK => ?_) (AllReadyH.cons ((List.getElem?_toArray ..).trans rfl) (fun KK hKK => ?_) AllReadyH.nil))
            ·
              go_simp
              clear hS
              refine (S.call (rceil_any ⟨bA, pA, lA, KA, qA, jA, JA, rfl, hA, nA, dA⟩ (rb_max RA.out (by decide)) zc HC.out.1)).mono ?_
              clear S
              rintro e w34 ⟨⟨_, rfl, pc, lc, Kc, rfl, nc⟩, S, H⟩
              replace nA := nA.hold H
              replace dA := dA.hold H
              replace nf := nf.hold H
              replace HH := HH.trans H
              clear H
              go_wp2_with fail
              refine hKK.out _ _ ⟨S.c 0 0 rfl rfl, S.c 0 1 rfl rfl, S.c 0 2 rfl rfl⟩ (fun hS => ?_)
              clear hKK KK
              try simp only [Act.put, List.setIfInBounds_toArray, List.set_cons_zero, List.set_cons_succ]
              refine wpAnyH_ready (rs := [5]) (by kernel_rfl) (by simp) (AllReadyH.cons ((List.getElem?_toArray ..).trans rfl) (fun KK hKK => ?_) AllReadyH.nil)
              go_simp
              clear hS
              have H := S.hnew 25 [.bool false, .slice none 0 0]
              replace S := S.alloc 25 [.bool false, .slice none 0 0] (w34.heap.size)
              replace nA := nA.hold H
              replace dA := dA.hold H
              replace nf := nf.hold H
              replace nc := nc.hold H
              replace HH := HH.trans H
              clear H
              refine hKK.out _ _ ⟨S.c 0 0 rfl rfl, S.c 0 1 rfl rfl, S.c 0 2 rfl rfl⟩ (fun hS => ?_)
              generalize (w34.alloc (.cells #[.bool false, .slice none 0 0] 25)) = w35 at S nA dA nf nc HH hS ⊢
              clear hKK KK
              try simp only [Act.put, List.setIfInBounds_toArray, List.set_cons_zero, List.set_cons_succ]
              refine wpAnyH_ready (rs := [6]) (by kernel_rfl) (by simp) (AllReadyH.cons ((List.getElem?_toArray ..).trans rfl) (fun KK hKK => ?_) AllReadyH.nil)
              have c0 := S.c 2 0 rfl rfl
              have f0 := S.f 2 0 rfl
              have c1 := S.c 2 1 rfl rfl
              have f1 := S.f 2 1 rfl
              go_simp
              clear hS c0 f0 c1 f1
              have H := S.hset 2 0 (.bool (negB zf)) rfl rfl (by intro q n e; cases e)
              replace S := S.set 2 0 (.bool (negB zf)) rfl
              replace nA := nA.hold H
              replace dA := dA.hold H
              replace nf := nf.hold H
              replace nc := nc.hold H
              replace HH := HH.trans H
              clear H
              have H := S.hset 2 1 (.slice pf lf Kf) rfl rfl (by intro q n e; cases e)
              replace S := S.set 2 1 (.slice pf lf Kf) rfl
              replace nA := nA.hold H
              replace dA := dA.hold H
              replace nf := nf.hold H
              replace nc := nc.hold H
              replace HH := HH.trans H
              clear H
              refine hKK.out _ _ ⟨S.c 0 0 rfl rfl, S.c 0 1 rfl rfl, S.c 0 2 rfl rfl⟩ (fun hS => ?_)
              generalize ((w35.setCell ⟨w3.heap.size, 0, none⟩ (.bool (negB zf))).setCell ⟨w3.heap.size, 1, none⟩ (.slice pf lf Kf)) = w36 at S nA dA nf nc HH hS ⊢
              clear hKK KK
              try simp only [Act.put, List.setIfInBounds_toArray, List.set_cons_zero, List.set_cons_succ]
              refine wpAnyH_ready (rs := [7]) (by kernel_rfl) (by simp) (AllReadyH.cons ((List.getElem?_toArray ..).trans rfl) (fun KK hKK => ?_) AllReadyH.nil)
              have c0 := S.c 3 0 rfl rfl
              have f0 := S.f 3 0 rfl
              have c1 := S.c 3 1 rfl rfl
              have f1 := S.f 3 1 rfl
              go_simp
              clear hS c0 f0 c1 f1
              have H := S.hset 3 0 (.bool (negB zc)) rfl rfl (by intro q n e; cases e)
              replace S := S.set 3 0 (.bool (negB zc)) rfl
              replace nA := nA.hold H
              replace dA := dA.hold H
              replace nf := nf.hold H
              replace nc := nc.hold H
              replace HH := HH.trans H
              clear H
              have H := S.hset 3 1 (.slice pc lc Kc) rfl rfl (by intro q n e; cases e)
              replace S := S.set 3 1 (.slice pc lc Kc) rfl
              replace nA := nA.hold H
              replace dA := dA.hold H
              replace nf := nf.hold H
              replace nc := nc.hold H
              replace HH := HH.trans H
              clear H
              refine hKK.out _ _ ⟨S.c 0 0 rfl rfl, S.c 0 1 rfl rfl, S.c 0 2 rfl rfl⟩ (fun hS => ?_)
              generalize ((w36.setCell ⟨w34.heap.size, 0, none⟩ (.bool (negB zc))).setCell ⟨w34.heap.size, 1, none⟩ (.slice pc lc Kc)) = w37 at S nA dA nf nc HH hS ⊢
              clear hKK KK
              try simp only [Act.put, List.setIfInBounds_toArray, List.set_cons_zero, List.set_cons_succ]
              refine wpAnyH_done (by kernel_rfl) ?_ _
              go_wp2_with fail
              go_meet
              case rel => exact ⟨w3.heap.size, w34.heap.size, pf, lf, Kf, pc, lc, Kc, rfl, rfl, Sv.of S [0, 1, 2, 3] rfl, nf, nc, HH⟩
            ·
              go_simp
              clear hS
              have H := S.hnew 25 [.bool false, .slice none 0 0]
              replace S := S.alloc 25 [.bool false, .slice none 0 0] (w33.heap.size)
              replace nA := nA.hold H
              replace dA := dA.hold H
              replace nf := nf.hold H
              replace HH := HH.trans H
              clear H
              refine hKK.out _ _ ⟨S.c 0 0 rfl rfl, S.c 0 1 rfl rfl, S.c 0 2 rfl rfl⟩ (fun hS => ?_)
              generalize (w33.alloc (.cells #[.bool false, .slice none 0 0] 25)) = w38 at S nA dA nf HH hS ⊢
              clear hKK KK
              try simp only [Act.put, List.setIfInBounds_toArray, List.set_cons_zero, List.set_cons_succ]
              refine wpAnyH_ready (rs := [3]) (by kernel_rfl) (by simp) (AllReadyH.cons ((List.getElem?_toArray ..).trans rfl) (fun KK hKK => ?_) AllReadyH.nil)
              go_simp
              clear hS
              refine (S.call (rceil_any ⟨bA, pA, lA, KA, qA, jA, JA, rfl, hA, nA, dA⟩ (rb_max RA.out (by decide)) zc HC.out.1)).mono ?_
              clear S
              rintro e w39 ⟨⟨_, rfl, pc, lc, Kc, rfl, nc⟩, S, H⟩
              replace nA := nA.hold H
              replace dA := dA.hold H
              replace nf := nf.hold H
              replace HH := HH.trans H
              clear H
              go_wp2_with fail
              refine hKK.out _ _ ⟨S.c 0 0 rfl rfl, S.c 0 1 rfl rfl, S.c 0 2 rfl rfl⟩ (fun hS => ?_)
              clear hKK KK
              try simp only [Act.put, List.setIfInBounds_toArray, List.set_cons_zero, List.set_cons_succ]
              refine wpAnyH_ready (rs := [6]) (by kernel_rfl) (by simp) (AllReadyH.cons ((List.getElem?_toArray ..).trans rfl) (fun KK hKK => ?_) AllReadyH.nil)
              have c0 := S.c 2 0 rfl rfl
              have f0 := S.f 2 0 rfl
              have c1 := S.c 2 1 rfl rfl
              have f1 := S.f 2 1 rfl
              go_simp
              clear hS c0 f0 c1 f1
              have H := S.hset 2 0 (.bool (negB zf)) rfl rfl (by intro q n e; cases e)
              replace S := S.set 2 0 (.bool (negB zf)) rfl
              replace nA := nA.hold H
              replace dA := dA.hold H
              replace nf := nf.hold H
              replace nc := nc.hold H
              replace HH := HH.trans H
              clear H
              have H := S.hset 2 1 (.slice pf lf Kf) rfl rfl (by intro q n e; cases e)
              replace S := S.set 2 1 (.slice pf lf Kf) rfl
              replace nA := nA.hold H
              replace dA := dA.hold H
              replace nf := nf.hold H
              replace nc := nc.hold H
              replace HH := HH.trans H
              clear H
              refine hKK.out _ _ ⟨S.c 0 0 rfl rfl, S.c 0 1 rfl rfl, S.c 0 2 rfl rfl⟩ (fun hS => ?_)
              generalize ((w39.setCell ⟨w3.heap.size, 0, none⟩ (.bool (negB zf))).setCell ⟨w3.heap.size, 1, none⟩ (.slice pf lf Kf)) = w40 at S nA dA nf nc HH hS ⊢
              clear hKK KK
              try simp only [Act.put, List.setIfInBounds_toArray, List.set_cons_zero, List.set_cons_succ]
              refine wpAnyH_ready (rs := [7]) (by kernel_rfl) (by simp) (AllReadyH.cons ((List.getElem?_toArray ..).trans rfl) (fun KK hKK => ?_) AllReadyH.nil)
              have c0 := S.c 3 0 rfl rfl
              have f0 := S.f 3 0 rfl
              have c1 := S.c 3 1 rfl rfl
              have f1 := S.f 3 1 rfl
              go_simp
              clear hS c0 f0 c1 f1
              have H := S.hset 3 0 (.bool (negB zc)) rfl rfl (by intro q n e; cases e)
              replace S := S.set 3 0 (.bool (negB zc)) rfl
              replace nA := nA.hold H
              replace dA := dA.hold H
              replace nf := nf.hold H
              replace nc := nc.hold H
              replace HH := HH.trans H
              clear H
              have H := S.hset 3 1 (.slice pc lc Kc) rfl rfl (by intro q n e; cases e)
              replace S := S.set 3 1 (.slice pc lc Kc) rfl
              replace nA := nA.hold H
              replace dA := dA.hold H
              replace nf := nf.hold H
              replace nc := nc.hold H
              replace HH := HH.trans H
              clear H
              refine hKK.out _ _ ⟨S.c 0 0 rfl rfl, S.c 0 1 rfl rfl, S.c 0 2 rfl rfl⟩ (fun hS => ?_)
              generalize ((w40.setCell ⟨w33.heap.size, 0, none⟩ (.bool (negB zc))).setCell ⟨w33.heap.size, 1, none⟩ (.slice pc lc Kc)) = w41 at S nA dA nf nc HH hS ⊢
              clear hKK KK
              try simp only [Act.put, List.setIfInBounds_toArray, List.set_cons_zero, List.set_cons_succ]
              refine wpAnyH_done (by kernel_rfl) ?_ _
              go_wp2_with fail
              go_meet
              case rel => exact ⟨w3.heap.size, w33.heap.size, pf, lf, Kf, pc, lc, Kc, rfl, rfl, Sv.of S [0, 1, 2, 3] rfl, nf, nc, HH⟩
          ·
            go_simp
            clear hS
            have H := S.hnew 25 [.bool false, .slice none 0 0]
            replace S := S.alloc 25 [.bool false, .slice none 0 0] (w32.heap.size)
            replace nA := nA.hold H
            replace dA := dA.hold H
            replace HH := HH.trans H
            clear H
            refine hKK.out _ _ ⟨S.c 0 0 rfl rfl, S.c 0 1 rfl rfl, S.c 0 2 rfl rfl⟩ (fun hS => ?_)
            generalize (w32.alloc (.cells #[.bool false, .slice none 0 0] 25)) = w42 at S nA dA HH hS ⊢
            clear hKK KK
            try simp only [Act.put, List.setIfInBounds_toArray, List.set_cons_zero, List.set_cons_succ]
            refine wpAnyH_ready (rs := [1]) (by kernel_rfl) (by simp) (AllReadyH.cons ((List.getElem?_toArray ..).trans rfl) (fun KK hKK => ?_) AllReadyH.nil)
            go_simp
            clear hS
            refine (S.call (rfloor_any ⟨bA, pA, lA, KA, qA, jA, JA, rfl, hA, nA, dA⟩ (rb_max RA.out (by decide)) zf HF.out.1)).mono ?_
            clear S
            rintro e w43 ⟨⟨_, rfl, pf, lf, Kf, rfl, nf⟩, S, H⟩
            replace nA := nA.hold H
            replace dA := dA.hold H
            replace HH := HH.trans H
            clear H
            go_wp2_with fail
            refine hKK.out _ _ ⟨S.c 0 0 rfl rfl, S.c 0 1 rfl rfl, S.c 0 2 rfl rfl⟩ (fun hS => ?_)
            clear hKK KK
            try simp only [Act.put, List.setIfInBounds_toArray, List.set_cons_zero, List.set_cons_succ]
            refine wpAnyH_ready (rs := [3]) (by kernel_rfl) (by simp) (AllReadyH.cons ((List.getElem?_toArray ..).trans rfl) (fun KK hKK => ?_) AllReadyH.nil)
            go_simp
            clear hS
            refine (S.call (rceil_any ⟨bA, pA, lA, KA, qA, jA, JA, rfl, hA, nA, dA⟩ (rb_max RA.out (by decide)) zc HC.out.1)).mono ?_
            clear S
            rintro e w44 ⟨⟨_, rfl, pc, lc, Kc, rfl, nc⟩, S, H⟩
            replace nA := nA.hold H
            replace dA := dA.hold H
            replace nf := nf.hold H
            replace HH := HH.trans H
            clear H
            go_wp2_with fail
            refine hKK.out _ _ ⟨S.c 0 0 rfl rfl, S.c 0 1 rfl rfl, S.c 0 2 rfl rfl⟩ (fun hS => ?_)
            clear hKK KK
            try simp only [Act.put, List.setIfInBounds_toArray, List.set_cons_zero, List.set_cons_succ]
            refine wpAnyH_ready (rs := [6]) (by kernel_rfl) (by simp) (AllReadyH.cons ((List.getElem?_toArray ..).trans rfl) (fun KK hKK => ?_) AllReadyH.nil)
            have c0 := S.c 2 0 rfl rfl
            have f0 := S.f 2 0 rfl
            have c1 := S.c 2 1 rfl rfl
            have f1 := S.f 2 1 rfl
            go_simp
            clear hS c0 f0 c1 f1
            have H := S.hset 2 0 (.bool (negB zf)) rfl rfl (by intro q n e; cases e)
            replace S := S.set 2 0 (.bool (negB zf)) rfl
            replace nA := nA.hold H
            replace dA := dA.hold H
            replace nf := nf.hold H
            replace nc := nc.hold H
            replace HH := HH.trans H
            clear H
            have H := S.hset 2 1 (.slice pf lf Kf) rfl rfl (by intro q n e; cases e)
            replace S := S.set 2 1 (.slice pf lf Kf) rfl
            replace nA := nA.hold H
            replace dA := dA.hold H
            replace nf := nf.hold H
            replace nc := nc.hold H
            replace HH := HH.trans H
            clear H
            refine hKK.out _ _ ⟨S.c 0 0 rfl rfl, S.c 0 1 rfl rfl, S.c 0 2 rfl rfl⟩ (fun hS => ?_)
            generalize ((w44.setCell ⟨w3.heap.size, 0, none⟩ (.bool (negB zf))).setCell ⟨w3.heap.size, 1, none⟩ (.slice pf lf Kf)) = w45 at S nA dA nf nc HH hS ⊢
            clear hKK KK
            try simp only [Act.put, List.setIfInBounds_toArray, List.set_cons_zero, List.set_cons_succ]
            refine wpAnyH_ready (rs := [7]) (by kernel_rfl) (by simp) (AllReadyH.cons ((List.getElem?_toArray ..).trans rfl) (fun KK hKK => ?_) AllReadyH.nil)
            have c0 := S.c 3 0 rfl rfl
            have f0 := S.f 3 0 rfl
            have c1 := S.c 3 1 rfl rfl
            have f1 := S.f 3 1 rfl
            go_simp
            clear hS c0 f0 c1 f1
            have H := S.hset 3 0 (.bool (negB zc)) rfl rfl (by intro q n e; cases e)
            replace S := S.set 3 0 (.bool (negB zc)) rfl
            replace nA := nA.hold H
            replace dA := dA.hold H
            replace nf := nf.hold H
            replace nc := nc.hold H
            replace HH := HH.trans H
            clear H
            have H := S.hset 3 1 (.slice pc lc Kc) rfl rfl (by intro q n e; cases e)
            replace S := S.set 3 1 (.slice pc lc Kc) rfl
            replace nA := nA.hold H
            replace dA := dA.hold H
            replace nf := nf.hold H
            replace nc := nc.hold H
            replace HH := HH.trans H
            clear H
            refine hKK.out _ _ ⟨S.c 0 0 rfl rfl, S.c 0 1 rfl rfl, S.c 0 2 rfl rfl⟩ (fun hS => ?_)
            generalize ((w45.setCell ⟨w32.heap.size, 0, none⟩ (.bool (negB zc))).setCell ⟨w32.heap.size, 1, none⟩ (.slice pc lc Kc)) = w46 at S nA dA nf nc HH hS ⊢
            clear hKK KK
            try simp only [Act.put, List.setIfInBounds_toArray, List.set_cons_zero, List.set_cons_succ]
            refine wpAnyH_done (by kernel_rfl) ?_ _
            go_wp2_with fail
            go_meet
            case rel => exact ⟨w3.heap.size, w32.heap.size, pf, lf, Kf, pc, lc, Kc, rfl, rfl, Sv.of S [0, 1, 2, 3] rfl, nf, nc, HH⟩
        ·
          go_simp
          clear hS
          have H := S.hnew 25 [.bool false, .slice none 0 0]
          replace S := S.alloc 25 [.bool false, .slice none 0 0] (w3.heap.size)
          replace nA := nA.hold H
          replace dA := dA.hold H
          replace HH := HH.trans H
          clear H
          refine hKK.out _ _ ⟨S.c 0 0 rfl rfl, S.c 0 1 rfl rfl, S.c 0 2 rfl rfl⟩ (fun hS => ?_)
          generalize (w3.alloc (.cells #[.bool false, .slice none 0 0] 25)) = w47 at S nA dA HH hS ⊢
          clear hKK KK
          try simp only [Act.put, List.setIfInBounds_toArray, List.set_cons_zero, List.set_cons_succ]
          refine wpAnyH_ready (rs := [1, 4]) (by kernel_rfl) (by simp) (AllReadyH.cons ((List.getElem?_toArray ..).trans rfl) (fun KK hKK => ?_) (AllReadyH.cons ((List.getElem?_toArray ..).trans rfl) (fun KK hKK => ?_) AllReadyH.nil))
          ·
            go_simp
            clear hS
            refine (S.call (rfloor_any ⟨bA, pA, lA, KA, qA, jA, JA, rfl, hA, nA, dA⟩ (rb_max RA.out (by decide)) zf HF.out.1)).mono ?_
            clear S
            rintro e w48 ⟨⟨_, rfl, pf, lf, Kf, rfl, nf⟩, S, H⟩
            replace nA := nA.hold H
            replace dA := dA.hold H
            replace HH := HH.trans H
            clear H
            go_wp2_with fail
            refine hKK.out _ _ ⟨S.c 0 0 rfl rfl, S.c 0 1 rfl rfl, S.c 0 2 rfl rfl⟩ (fun hS => ?_)
            clear hKK KK
            try simp only [Act.put, List.setIfInBounds_toArray, List.set_cons_zero, List.set_cons_succ]
            refine wpAnyH_ready (rs := [3, 4]) (by kernel_rfl) (by simp) (AllReadyH.cons ((List.getElem?_toArray ..).trans rfl) (fun KK hKK => ?_) (AllReadyH.cons ((List.getElem?_toArray ..).trans rfl) (fun KK hKK => ?_) AllReadyH.nil))
            ·
              go_simp
              clear hS
              refine (S.call (rceil_any ⟨bA, pA, lA, KA, qA, jA, JA, rfl, hA, nA, dA⟩ (rb_max RA.out (by decide)) zc HC.out.1)).mono ?_
              clear S
              rintro e w49 ⟨⟨_, rfl, pc, lc, Kc, rfl, nc⟩, S, H⟩
              replace nA := nA.hold H
              replace dA := dA.hold H
              replace nf := nf.hold H
              replace HH := HH.trans H
              clear H
              go_wp2_with fail
              refine hKK.out _ _ ⟨S.c 0 0 rfl rfl, S.c 0 1 rfl rfl, S.c 0 2 rfl rfl⟩ (fun hS => ?_)
              clear hKK KK
              try simp only [Act.put, List.setIfInBounds_toArray, List.set_cons_zero, List.set_cons_succ]
              refine wpAnyH_ready (rs := [4]) (by kernel_rfl) (by simp) (AllReadyH.cons ((List.getElem?_toArray ..).trans rfl) (fun KK hKK => ?_) AllReadyH.nil)
              go_simp
              clear hS
              have H := S.hnew 25 [.bool false, .slice none 0 0]
              replace S := S.alloc 25 [.bool false, .slice none 0 0] (w49.heap.size)
              replace nA := nA.hold H
              replace dA := dA.hold H
              replace nf := nf.hold H
              replace nc := nc.hold H
              replace HH := HH.trans H
              clear H
              refine hKK.out _ _ ⟨S.c 0 0 rfl rfl, S.c 0 1 rfl rfl, S.c 0 2 rfl rfl⟩ (fun hS => ?_)
              generalize (w49.alloc (.cells #[.bool false, .slice none 0 0] 25)) = w50 at S nA dA nf nc HH hS ⊢
              clear hKK KK
              try simp only [Act.put, List.setIfInBounds_toArray, List.set_cons_zero, List.set_cons_succ]
              refine wpAnyH_ready (rs := [6]) (by kernel_rfl) (by simp) (AllReadyH.cons ((List.getElem?_toArray ..).trans rfl) (fun KK hKK => ?_) AllReadyH.nil)
              have c0 := S.c 3 0 rfl rfl
              have f0 := S.f 3 0 rfl
              have c1 := S.c 3 1 rfl rfl
              have f1 := S.f 3 1 rfl
              go_simp
              clear hS c0 f0 c1 f1
              have H := S.hset 3 0 (.bool (negB zf)) rfl rfl (by intro q n e; cases e)
              replace S := S.set 3 0 (.bool (negB zf)) rfl
              replace nA := nA.hold H
              replace dA := dA.hold H
              replace nf := nf.hold H
              replace nc := nc.hold H
              replace HH := HH.trans H
              clear H
              have H := S.hset 3 1 (.slice pf lf Kf) rfl rfl (by intro q n e; cases e)
              replace S := S.set 3 1 (.slice pf lf Kf) rfl
              replace nA := nA.hold H
              replace dA := dA.hold H
              replace nf := nf.hold H
              replace nc := nc.hold H
              replace HH := HH.trans H
              clear H
              refine hKK.out _ _ ⟨S.c 0 0 rfl rfl, S.c 0 1 rfl rfl, S.c 0 2 rfl rfl⟩ (fun hS => ?_)
              generalize ((w50.setCell ⟨w49.heap.size, 0, none⟩ (.bool (negB zf))).setCell ⟨w49.heap.size, 1, none⟩ (.slice pf lf Kf)) = w51 at S nA dA nf nc HH hS ⊢
              clear hKK KK
              try simp only [Act.put, List.setIfInBounds_toArray, List.set_cons_zero, List.set_cons_succ]
              refine wpAnyH_ready (rs := [7]) (by kernel_rfl) (by simp) (AllReadyH.cons ((List.getElem?_toArray ..).trans rfl) (fun KK hKK => ?_) AllReadyH.nil)
              have c0 := S.c 2 0 rfl rfl
              have f0 := S.f 2 0 rfl
              have c1 := S.c 2 1 rfl rfl
              have f1 := S.f 2 1 rfl
              go_simp
              clear hS c0 f0 c1 f1
              have H := S.hset 2 0 (.bool (negB zc)) rfl rfl (by intro q n e; cases e)
              replace S := S.set 2 0 (.bool (negB zc)) rfl
              replace nA := nA.hold H
              replace dA := dA.hold H
              replace nf := nf.hold H
              replace nc := nc.hold H
              replace HH := HH.trans H
              clear H
              have H := S.hset 2 1 (.slice pc lc Kc) rfl rfl (by intro q n e; cases e)
              replace S := S.set 2 1 (.slice pc lc Kc) rfl
              replace nA := nA.hold H
              replace dA := dA.hold H
              replace nf := nf.hold H
              replace nc := nc.hold H
              replace HH := HH.trans H
              clear H
              refine hKK.out _ _ ⟨S.c 0 0 rfl rfl, S.c 0 1 rfl rfl, S.c 0 2 rfl rfl⟩ (fun hS => ?_)
              generalize ((w51.setCell ⟨w3.heap.size, 0, none⟩ (.bool (negB zc))).setCell ⟨w3.heap.size, 1, none⟩ (.slice pc lc Kc)) = w52 at S nA dA nf nc HH hS ⊢
              clear hKK KK
              try simp only [Act.put, List.setIfInBounds_toArray, List.set_cons_zero, List.set_cons_succ]
              refine wpAnyH_done (by kernel_rfl) ?_ _
              go_wp2_with fail
              go_meet
              case rel => exact ⟨w49.heap.size, w3.heap.size, pf, lf, Kf, pc, lc, Kc, rfl, rfl, Sv.of S [0, 1, 3, 2] rfl, nf, nc, HH⟩
            ·
              go_simp
              clear hS
              have H := S.hnew 25 [.bool false, .slice none 0 0]
              replace S := S.alloc 25 [.bool false, .slice none 0 0] (w48.heap.size)
              replace nA := nA.hold H
              replace dA := dA.hold H
              replace nf := nf.hold H
              replace HH := HH.trans H
              clear H
              refine hKK.out _ _ ⟨S.c 0 0 rfl rfl, S.c 0 1 rfl rfl, S.c 0 2 rfl rfl⟩ (fun hS => ?_)
              generalize (w48.alloc (.cells #[.bool false, .slice none 0 0] 25)) = w53 at S nA dA nf HH hS ⊢
              clear hKK KK
              try simp only [Act.put, List.setIfInBounds_toArray, List.set_cons_zero, List.set_cons_succ]
              refine wpAnyH_ready (rs := [3]) (by kernel_rfl) (by simp) (AllReadyH.cons ((List.getElem?_toArray ..).trans rfl) (fun KK hKK => ?_) AllReadyH.nil)
              go_simp
              clear hS
              refine (S.call (rceil_any ⟨bA, pA, lA, KA, qA, jA, JA, rfl, hA, nA, dA⟩ (rb_max RA.out (by decide)) zc HC.out.1)).mono ?_
              clear S
              rintro e w54 ⟨⟨_, rfl, pc, lc, Kc, rfl, nc⟩, S, H⟩
              replace nA := nA.hold H
              replace dA := dA.hold H
              replace nf := nf.hold H
              replace HH := HH.trans H
              clear H
              go_wp2_with fail
              refine hKK.out _ _ ⟨S.c 0 0 rfl rfl, S.c 0 1 rfl rfl, S.c 0 2 rfl rfl⟩ (fun hS => ?_)
              clear hKK KK
              try simp only [Act.put, List.setIfInBounds_toArray, List.set_cons_zero, List.set_cons_succ]
              refine wpAnyH_ready (rs := [6]) (by kernel_rfl) (by simp) (AllReadyH.cons ((List.getElem?_toArray ..).trans rfl) (fun KK hKK => ?_) AllReadyH.nil)
              have c0 := S.c 3 0 rfl rfl
              have f0 := S.f 3 0 rfl
              have c1 := S.c 3 1 rfl rfl
              have f1 := S.f 3 1 rfl
              go_simp
              clear hS c0 f0 c1 f1
              have H := S.hset 3 0 (.bool (negB zf)) rfl rfl (by intro q n e; cases e)
              replace S := S.set 3 0 (.bool (negB zf)) rfl
              replace nA := nA.hold H
              replace dA := dA.hold H
              replace nf := nf.hold H
              replace nc := nc.hold H
              replace HH := HH.trans H
              clear H
              have H := S.hset 3 1 (.slice pf lf Kf) rfl rfl (by intro q n e; cases e)
              replace S := S.set 3 1 (.slice pf lf Kf) rfl
              replace nA := nA.hold H
              replace dA := dA.hold H
              replace nf := nf.hold H
              replace nc := nc.hold H
              replace HH := HH.trans H
              clear H
              refine hKK.out _ _ ⟨S.c 0 0 rfl rfl, S.c 0 1 rfl rfl, S.c 0 2 rfl rfl⟩ (fun hS => ?_)
              generalize ((w54.setCell ⟨w48.heap.size, 0, none⟩ (.bool (negB zf))).setCell ⟨w48.heap.size, 1, none⟩ (.slice pf lf Kf)) = w55 at S nA dA nf nc HH hS ⊢
              clear hKK KK
              try simp only [Act.put, List.setIfInBounds_toArray, List.set_cons_zero, List.set_cons_succ]
              refine wpAnyH_ready (rs := [7]) (by kernel_rfl) (by simp) (AllReadyH.cons ((List.getElem?_toArray ..).trans rfl) (fun KK hKK => ?_) AllReadyH.nil)
              have c0 := S.c 2 0 rfl rfl
              have f0 := S.f 2 0 rfl
              have c1 := S.c 2 1 rfl rfl
              have f1 := S.f 2 1 rfl
              go_simp
              clear hS c0 f0 c1 f1
              have H := S.hset 2 0 (.bool (negB zc)) rfl rfl (by intro q n e; cases e)
              replace S := S.set 2 0 (.bool (negB zc)) rfl
              replace nA := nA.hold H
              replace dA := dA.hold H
              replace nf := nf.hold H
              replace nc := nc.hold H
              replace HH := HH.trans H
              clear H
              have H := S.hset 2 1 (.slice pc lc Kc) rfl rfl (by intro q n e; cases e)
              replace S := S.set 2 1 (.slice pc lc Kc) rfl
              replace nA := nA.hold H
              replace dA := dA.hold H
              replace nf := nf.hold H
              replace nc := nc.hold H
              replace HH := HH.trans H
              clear H
              refine hKK.out _ _ ⟨S.c 0 0 rfl rfl, S.c 0 1 rfl rfl, S.c 0 2 rfl rfl⟩ (fun hS => ?_)
              generalize ((w55.setCell ⟨w3.heap.size, 0, none⟩ (.bool (negB zc))).setCell ⟨w3.heap.size, 1, none⟩ (.slice pc lc Kc)) = w56 at S nA dA nf nc HH hS ⊢
              clear hKK KK
              try simp only [Act.put, List.setIfInBounds_toArray, List.set_cons_zero, List.set_cons_succ]
              refine wpAnyH_done (by kernel_rfl) ?_ _
              go_wp2_with fail
              go_meet
              case rel => exact ⟨w48.heap.size, w3.heap.size, pf, lf, Kf, pc, lc, Kc, rfl, rfl, Sv.of S [0, 1, 3, 2] rfl, nf, nc, HH⟩
          ·
            go_simp
            clear hS
            have H := S.hnew 25 [.bool false, .slice none 0 0]
            replace S := S.alloc 25 [.bool false, .slice none 0 0] (w47.heap.size)
            replace nA := nA.hold H
            replace dA := dA.hold H
            replace HH := HH.trans H
            clear H
            refine hKK.out _ _ ⟨S.c 0 0 rfl rfl, S.c 0 1 rfl rfl, S.c 0 2 rfl rfl⟩ (fun hS => ?_)
            generalize (w47.alloc (.cells #[.bool false, .slice none 0 0] 25)) = w57 at S nA dA HH hS ⊢
            clear hKK KK
            try simp only [Act.put, List.setIfInBounds_toArray, List.set_cons_zero, List.set_cons_succ]
            refine wpAnyH_ready (rs := [1]) (by kernel_rfl) (by simp) (AllReadyH.cons ((List.getElem?_toArray ..).trans rfl) (fun KK hKK => ?_) AllReadyH.nil)
            go_simp
            clear hS
            refine (S.call (rfloor_any ⟨bA, pA, lA, KA, qA, jA, JA, rfl, hA, nA, dA⟩ (rb_max RA.out (by decide)) zf HF.out.1)).mono ?_
            clear S
            rintro e w58 ⟨⟨_, rfl, pf, lf, Kf, rfl, nf⟩, S, H⟩
            replace nA := nA.hold H
            replace dA := dA.hold H
            replace HH := HH.trans H
            clear H
            go_wp2_with fail
            refine hKK.out _ _ ⟨S.c 0 0 rfl rfl, S.c 0 1 rfl rfl, S.c 0 2 rfl rfl⟩ (fun hS => ?_)
            clear hKK KK
            try simp only [Act.put, List.setIfInBounds_toArray, List.set_cons_zero, List.set_cons_succ]
            refine wpAnyH_ready (rs := [3]) (by kernel_rfl) (by simp) (AllReadyH.cons ((List.getElem?_toArray ..).trans rfl) (fun KK hKK => ?_) AllReadyH.nil)
            go_simp
            clear hS
            refine (S.call (rceil_any ⟨bA, pA, lA, KA, qA, jA, JA, rfl, hA, nA, dA⟩ (rb_max RA.out (by decide)) zc HC.out.1)).mono ?_
            clear S
            rintro e w59 ⟨⟨_, rfl, pc, lc, Kc, rfl, nc⟩, S, H⟩
            replace nA := nA.hold H
            replace dA := dA.hold H
            replace nf := nf.hold H
            replace HH := HH.trans H
            clear H
            go_wp2_with fail
            refine hKK.out _ _ ⟨S.c 0 0 rfl rfl, S.c 0 1 rfl rfl, S.c 0 2 rfl rfl⟩ (fun hS => ?_)
            clear hKK KK
            try simp only [Act.put, List.setIfInBounds_toArray, List.set_cons_zero, List.set_cons_succ]
            refine wpAnyH_ready (rs := [6]) (by kernel_rfl) (by simp) (AllReadyH.cons ((List.getElem?_toArray ..).trans rfl) (fun KK hKK => ?_) AllReadyH.nil)
            have c0 := S.c 3 0 rfl rfl
            have f0 := S.f 3 0 rfl
            have c1 := S.c 3 1 rfl rfl
            have f1 := S.f 3 1 rfl
            go_simp
            clear hS c0 f0 c1 f1
            have H := S.hset 3 0 (.bool (negB zf)) rfl rfl (by intro q n e; cases e)
            replace S := S.set 3 0 (.bool (negB zf)) rfl
            replace nA := nA.hold H
            replace dA := dA.hold H
            replace nf := nf.hold H
            replace nc := nc.hold H
            replace HH := HH.trans H
            clear H
            have H := S.hset 3 1 (.slice pf lf Kf) rfl rfl (by intro q n e; cases e)
            replace S := S.set 3 1 (.slice pf lf Kf) rfl
            replace nA := nA.hold H
            replace dA := dA.hold H
            replace nf := nf.hold H
            replace nc := nc.hold H
            replace HH := HH.trans H
            clear H
            refine hKK.out _ _ ⟨S.c 0 0 rfl rfl, S.c 0 1 rfl rfl, S.c 0 2 rfl rfl⟩ (fun hS => ?_)
            generalize ((w59.setCell ⟨w47.heap.size, 0, none⟩ (.bool (negB zf))).setCell ⟨w47.heap.size, 1, none⟩ (.slice pf lf Kf)) = w60 at S nA dA nf nc HH hS ⊢
            clear hKK KK
            try simp only [Act.put, List.setIfInBounds_toArray, List.set_cons_zero, List.set_cons_succ]
            refine wpAnyH_ready (rs := [7]) (by kernel_rfl) (by simp) (AllReadyH.cons ((List.getElem?_toArray ..).trans rfl) (fun KK hKK => ?_) AllReadyH.nil)
            have c0 := S.c 2 0 rfl rfl
            have f0 := S.f 2 0 rfl
            have c1 := S.c 2 1 rfl rfl
            have f1 := S.f 2 1 rfl
            go_simp
            clear hS c0 f0 c1 f1
            have H := S.hset 2 0 (.bool (negB zc)) rfl rfl (by intro q n e; cases e)
            replace S := S.set 2 0 (.bool (negB zc)) rfl
            replace nA := nA.hold H
            replace dA := dA.hold H
            replace nf := nf.hold H
            replace nc := nc.hold H
            replace HH := HH.trans H
            clear H
            have H := S.hset 2 1 (.slice pc lc Kc) rfl rfl (by intro q n e; cases e)
            replace S := S.set 2 1 (.slice pc lc Kc) rfl
            replace nA := nA.hold H
            replace dA := dA.hold H
            replace nf := nf.hold H
            replace nc := nc.hold H
            replace HH := HH.trans H
            clear H
            refine hKK.out _ _ ⟨S.c 0 0 rfl rfl, S.c 0 1 rfl rfl, S.c 0 2 rfl rfl⟩ (fun hS => ?_)
            generalize ((w60.setCell ⟨w3.heap.size, 0, none⟩ (.bool (negB zc))).setCell ⟨w3.heap.size, 1, none⟩ (.slice pc lc Kc)) = w61 at S nA dA nf nc HH hS ⊢
            clear hKK KK
            try simp only [Act.put, List.setIfInBounds_toArray, List.set_cons_zero, List.set_cons_succ]
            refine wpAnyH_done (by kernel_rfl) ?_ _
            go_wp2_with fail
            go_meet
            case rel => exact ⟨w47.heap.size, w3.heap.size, pf, lf, Kf, pc, lc, Kc, rfl, rfl, Sv.of S [0, 1, 3, 2] rfl, nf, nc, HH⟩
      case rest =>
        obtain ⟨g3, g4, pf, lf, Kf, pc, lc, Kc, rfl, rfl, S, nf, nc, HH⟩ := hcut
        obtain ⟨w62, rfl⟩ : ∃ W : World, W = wc := ⟨_, rfl⟩
        replace nA := nA.hold HH
        replace dA := dA.hold HH
        clear HH
        have c0_0 := S.c 0 0 rfl rfl
        have c0_1 := S.c 0 1 rfl rfl
        have c0_2 := S.c 0 2 rfl rfl
        have c2_0 := S.c 2 0 rfl rfl
        have c2_1 := S.c 2 1 rfl rfl
        have c3_0 := S.c 3 0 rfl rfl
        have c3_1 := S.c 3 1 rfl rfl
        go_upto_region 6 with fail
        clear c0_0 c0_1 c0_2 c2_0 c2_1 c3_0 c3_1
        replace nA := nA.hold (Hold.drew _)
        replace dA := dA.hold (Hold.drew _)
        replace nf := nf.hold (Hold.drew _)
        replace nc := nc.hold (Hold.drew _)
        replace S := S.drew
        refine wp_region_held_drew (S := fun W => W.cell? ⟨g3, 0, none⟩ = some (.bool (negB zf)) ∧ W.cell? ⟨g3, 1, none⟩ = some (.slice pf lf Kf) ∧ W.cell? ⟨w.heap.size, 0, none⟩ = some (.bool bA) ∧ W.cell? ⟨w.heap.size, 1, none⟩ = some (.slice pA lA KA) ∧ W.cell? ⟨w.heap.size, 2, none⟩ = some (.slice qA jA JA)) (by kernel_rfl) ⟨S.c 2 0 rfl rfl, S.c 2 1 rfl rfl, S.c 0 0 rfl rfl, S.c 0 1 rfl rfl, S.c 0 2 rfl rfl⟩ (fun hS => ?_)
        refine wpAnyH_take (i := 0) (v := ?_) ((List.getElem?_toArray ..).trans rfl) (by kernel_rfl) (by kernel_rfl) (by kernel_rfl) (fun _ _ _ h => h) (Or.inl ⟨rfl, fun W hW => ?_⟩) hS ?_
        rotate_left
        · obtain ⟨hW0, hW1, hW2, hW3, hW4⟩ := hW; go_simp; try first | rfl | (rw [if_neg (by first | omega | (simp only [ByteArray.size_append]; first | omega | (have h1 : (ByteArray.mk #[47]).size = 1 := rfl; omega)))]; try rfl) | kernel_rfl
        try simp only [Act.put, List.setIfInBounds_toArray, List.set_cons_zero, List.set_cons_succ]
        refine wpAnyH_take (i := 2) (v := ?_) ((List.getElem?_toArray ..).trans rfl) (by kernel_rfl) (by kernel_rfl) (by kernel_rfl) (fun _ _ _ h => h) (Or.inl ⟨rfl, fun W hW => ?_⟩) hS ?_
        rotate_left
        · obtain ⟨hW0, hW1, hW2, hW3, hW4⟩ := hW; go_simp; try first | rfl | (rw [if_neg (by first | omega | (simp only [ByteArray.size_append]; first | omega | (have h1 : (ByteArray.mk #[47]).size = 1 := rfl; omega)))]; try rfl) | kernel_rfl
        try simp only [Act.put, List.setIfInBounds_toArray, List.set_cons_zero, List.set_cons_succ]
        refine wpAnyH_ready (rs := [1]) (by kernel_rfl) (by simp) (AllReadyH.cons ((List.getElem?_toArray ..).trans rfl) (fun KK hKK => ?_) AllReadyH.nil)
        go_simp
        refine (S.call (rwhole_any ⟨_, _, _, rfl, nf⟩ (nb_max HF.out.2 (by decide)) ((zf : Int) : Rat) rfl)).mono ?_; clear S; rintro e w63 ⟨⟨_, rfl, bF, pF, lF, KF, qF, jF, JF, rfl, hF, nF, dF⟩, S, H⟩; replace nA := nA.hold H; replace dA := dA.hold H; replace nf := nf.hold H; replace nc := nc.hold H; clear H
        go_wp2_with fail
        refine hKK.out _ _ ⟨S.c 2 0 rfl rfl, S.c 2 1 rfl rfl, S.c 0 0 rfl rfl, S.c 0 1 rfl rfl, S.c 0 2 rfl rfl⟩ (fun hS => ?_)
        clear hKK KK
        try simp only [Act.put, List.setIfInBounds_toArray, List.set_cons_zero, List.set_cons_succ]
        refine wpAnyH_ready (rs := [3]) (by kernel_rfl) (by simp) (AllReadyH.cons ((List.getElem?_toArray ..).trans rfl) (fun KK hKK => ?_) AllReadyH.nil)
        go_simp
        refine (S.call (rcompare_any ⟨bF, pF, lF, KF, qF, jF, JF, rfl, hF, nF, dF⟩ ⟨bA, pA, lA, KA, qA, jA, JA, rfl, hA, nA, dA⟩ RF.out RA.out (by decide) (0) HK.out.1)).mono ?_; clear S; rintro e w64 ⟨rfl, S, H⟩; replace nA := nA.hold H; replace dA := dA.hold H; replace nf := nf.hold H; replace nc := nc.hold H; replace nF := nF.hold H; replace dF := dF.hold H; clear H
        go_wp2_with fail
        refine hKK.out _ _ ⟨S.c 2 0 rfl rfl, S.c 2 1 rfl rfl, S.c 0 0 rfl rfl, S.c 0 1 rfl rfl, S.c 0 2 rfl rfl⟩ (fun hS => ?_)
        clear hKK KK
        try simp only [Act.put, List.setIfInBounds_toArray, List.set_cons_zero, List.set_cons_succ]
        refine wpAnyH_take (i := 4) (v := ?_) ((List.getElem?_toArray ..).trans rfl) (by kernel_rfl) (by kernel_rfl) (by kernel_rfl) (fun _ _ _ h => h) (Or.inl ⟨rfl, fun W hW => ?_⟩) hS ?_
        rotate_left
        · obtain ⟨hW0, hW1, hW2, hW3, hW4⟩ := hW; go_simp; try first | rfl | (rw [if_neg (by first | omega | (simp only [ByteArray.size_append]; first | omega | (have h1 : (ByteArray.mk #[47]).size = 1 := rfl; omega)))]; try rfl) | kernel_rfl
        try simp only [Act.put, List.setIfInBounds_toArray, List.set_cons_zero, List.set_cons_succ]
        refine wpAnyH_take (i := 5) (v := ?_) ((List.getElem?_toArray ..).trans rfl) (by kernel_rfl) (by kernel_rfl) (by kernel_rfl) (fun _ _ _ h => h) (Or.inl ⟨rfl, fun W hW => ?_⟩) hS ?_
        rotate_left
        · obtain ⟨hW0, hW1, hW2, hW3, hW4⟩ := hW; go_simp; try first | rfl | (rw [if_neg (by first | omega | (simp only [ByteArray.size_append]; first | omega | (have h1 : (ByteArray.mk #[47]).size = 1 := rfl; omega)))]; try rfl) | kernel_rfl
        try simp only [Act.put, List.setIfInBounds_toArray, List.set_cons_zero, List.set_cons_succ]
        refine wpAnyH_take (i := 6) (v := ?_) ((List.getElem?_toArray ..).trans rfl) (by kernel_rfl) (by kernel_rfl) (by kernel_rfl) (fun _ _ _ h => h) (Or.inl ⟨rfl, fun W hW => ?_⟩) hS ?_
        rotate_left
        · obtain ⟨hW0, hW1, hW2, hW3, hW4⟩ := hW; go_simp; try first | rfl | (rw [if_neg (by first | omega | (simp only [ByteArray.size_append]; first | omega | (have h1 : (ByteArray.mk #[47]).size = 1 := rfl; omega)))]; try rfl) | kernel_rfl
        try simp only [Act.put, List.setIfInBounds_toArray, List.set_cons_zero, List.set_cons_succ]
        refine wpAnyH_ready (rs := [7]) (by kernel_rfl) (by simp) (AllReadyH.cons ((List.getElem?_toArray ..).trans rfl) (fun KK hKK => ?_) AllReadyH.nil)
        go_simp
        refine hKK.out _ _ ⟨S.c 2 0 rfl rfl, S.c 2 1 rfl rfl, S.c 0 0 rfl rfl, S.c 0 1 rfl rfl, S.c 0 2 rfl rfl⟩ (fun hS => ?_)
        clear hKK KK
        try simp only [Act.put, List.setIfInBounds_toArray, List.set_cons_zero, List.set_cons_succ]
        refine wpAnyH_ready (rs := [8]) (by kernel_rfl) (by simp) (AllReadyH.cons ((List.getElem?_toArray ..).trans rfl) (fun KK hKK => ?_) AllReadyH.nil)
        go_simp
        refine hKK.out _ _ ⟨S.c 2 0 rfl rfl, S.c 2 1 rfl rfl, S.c 0 0 rfl rfl, S.c 0 1 rfl rfl, S.c 0 2 rfl rfl⟩ (fun hS => ?_)
        clear hKK KK
        try simp only [Act.put, List.setIfInBounds_toArray, List.set_cons_zero, List.set_cons_succ]
        refine wpAnyH_done (by kernel_rfl) ?_ _
        go_upto_region 7 with fail
        replace nA := nA.hold (Hold.drew _)
        replace dA := dA.hold (Hold.drew _)
        replace nf := nf.hold (Hold.drew _)
        replace nc := nc.hold (Hold.drew _)
        replace nF := nF.hold (Hold.drew _)
        replace dF := dF.hold (Hold.drew _)
        replace S := S.drew
        refine wp_region_held_drew (S := fun W => W.cell? ⟨g4, 0, none⟩ = some (.bool (negB zc)) ∧ W.cell? ⟨g4, 1, none⟩ = some (.slice pc lc Kc) ∧ W.cell? ⟨w.heap.size, 0, none⟩ = some (.bool bA) ∧ W.cell? ⟨w.heap.size, 1, none⟩ = some (.slice pA lA KA) ∧ W.cell? ⟨w.heap.size, 2, none⟩ = some (.slice qA jA JA)) (by kernel_rfl) ⟨S.c 3 0 rfl rfl, S.c 3 1 rfl rfl, S.c 0 0 rfl rfl, S.c 0 1 rfl rfl, S.c 0 2 rfl rfl⟩ (fun hS => ?_)
        refine wpAnyH_take (i := 0) (v := ?_) ((List.getElem?_toArray ..).trans rfl) (by kernel_rfl) (by kernel_rfl) (by kernel_rfl) (fun _ _ _ h => h) (Or.inl ⟨rfl, fun W hW => ?_⟩) hS ?_
        rotate_left
        · obtain ⟨hW0, hW1, hW2, hW3, hW4⟩ := hW; go_simp; try first | rfl | (rw [if_neg (by first | omega | (simp only [ByteArray.size_append]; first | omega | (have h1 : (ByteArray.mk #[47]).size = 1 := rfl; omega)))]; try rfl) | kernel_rfl
        try simp only [Act.put, List.setIfInBounds_toArray, List.set_cons_zero, List.set_cons_succ]
        refine wpAnyH_take (i := 1) (v := ?_) ((List.getElem?_toArray ..).trans rfl) (by kernel_rfl) (by kernel_rfl) (by kernel_rfl) (fun _ _ _ h => h) (Or.inl ⟨rfl, fun W hW => ?_⟩) hS ?_
        rotate_left
        · obtain ⟨hW0, hW1, hW2, hW3, hW4⟩ := hW; go_simp; try first | rfl | (rw [if_neg (by first | omega | (simp only [ByteArray.size_append]; first | omega | (have h1 : (ByteArray.mk #[47]).size = 1 := rfl; omega)))]; try rfl) | kernel_rfl
        try simp only [Act.put, List.setIfInBounds_toArray, List.set_cons_zero, List.set_cons_succ]
        refine wpAnyH_ready (rs := [2]) (by kernel_rfl) (by simp) (AllReadyH.cons ((List.getElem?_toArray ..).trans rfl) (fun KK hKK => ?_) AllReadyH.nil)
        go_simp
        refine (S.call (rwhole_any ⟨_, _, _, rfl, nc⟩ (nb_max HC.out.2 (by decide)) ((zc : Int) : Rat) rfl)).mono ?_; clear S; rintro e w65 ⟨⟨_, rfl, bG, pG, lG, KG, qG, jG, JG, rfl, hG, nG, dG⟩, S, H⟩; replace nA := nA.hold H; replace dA := dA.hold H; replace nf := nf.hold H; replace nc := nc.hold H; replace nF := nF.hold H; replace dF := dF.hold H; clear H
        go_wp2_with fail
        refine hKK.out _ _ ⟨S.c 3 0 rfl rfl, S.c 3 1 rfl rfl, S.c 0 0 rfl rfl, S.c 0 1 rfl rfl, S.c 0 2 rfl rfl⟩ (fun hS => ?_)
        clear hKK KK
        try simp only [Act.put, List.setIfInBounds_toArray, List.set_cons_zero, List.set_cons_succ]
        refine wpAnyH_ready (rs := [3]) (by kernel_rfl) (by simp) (AllReadyH.cons ((List.getElem?_toArray ..).trans rfl) (fun KK hKK => ?_) AllReadyH.nil)
        go_simp
        refine (S.call (rcompare_any ⟨bA, pA, lA, KA, qA, jA, JA, rfl, hA, nA, dA⟩ ⟨bG, pG, lG, KG, qG, jG, JG, rfl, hG, nG, dG⟩ RA.out RG.out (by decide) (0) HK.out.2.1)).mono ?_; clear S; rintro e w66 ⟨rfl, S, H⟩; replace nA := nA.hold H; replace dA := dA.hold H; replace nf := nf.hold H; replace nc := nc.hold H; replace nF := nF.hold H; replace dF := dF.hold H; replace nG := nG.hold H; replace dG := dG.hold H; clear H
        go_wp2_with fail
        refine hKK.out _ _ ⟨S.c 3 0 rfl rfl, S.c 3 1 rfl rfl, S.c 0 0 rfl rfl, S.c 0 1 rfl rfl, S.c 0 2 rfl rfl⟩ (fun hS => ?_)
        clear hKK KK
        try simp only [Act.put, List.setIfInBounds_toArray, List.set_cons_zero, List.set_cons_succ]
        refine wpAnyH_take (i := 4) (v := ?_) ((List.getElem?_toArray ..).trans rfl) (by kernel_rfl) (by kernel_rfl) (by kernel_rfl) (fun _ _ _ h => h) (Or.inl ⟨rfl, fun W hW => ?_⟩) hS ?_
        rotate_left
        · obtain ⟨hW0, hW1, hW2, hW3, hW4⟩ := hW; go_simp; try first | rfl | (rw [if_neg (by first | omega | (simp only [ByteArray.size_append]; first | omega | (have h1 : (ByteArray.mk #[47]).size = 1 := rfl; omega)))]; try rfl) | kernel_rfl
        try simp only [Act.put, List.setIfInBounds_toArray, List.set_cons_zero, List.set_cons_succ]
        refine wpAnyH_take (i := 5) (v := ?_) ((List.getElem?_toArray ..).trans rfl) (by kernel_rfl) (by kernel_rfl) (by kernel_rfl) (fun _ _ _ h => h) (Or.inl ⟨rfl, fun W hW => ?_⟩) hS ?_
        rotate_left
        · obtain ⟨hW0, hW1, hW2, hW3, hW4⟩ := hW; go_simp; try first | rfl | (rw [if_neg (by first | omega | (simp only [ByteArray.size_append]; first | omega | (have h1 : (ByteArray.mk #[47]).size = 1 := rfl; omega)))]; try rfl) | kernel_rfl
        try simp only [Act.put, List.setIfInBounds_toArray, List.set_cons_zero, List.set_cons_succ]
        refine wpAnyH_take (i := 6) (v := ?_) ((List.getElem?_toArray ..).trans rfl) (by kernel_rfl) (by kernel_rfl) (by kernel_rfl) (fun _ _ _ h => h) (Or.inl ⟨rfl, fun W hW => ?_⟩) hS ?_
        rotate_left
        · obtain ⟨hW0, hW1, hW2, hW3, hW4⟩ := hW; go_simp; try first | rfl | (rw [if_neg (by first | omega | (simp only [ByteArray.size_append]; first | omega | (have h1 : (ByteArray.mk #[47]).size = 1 := rfl; omega)))]; try rfl) | kernel_rfl
        try simp only [Act.put, List.setIfInBounds_toArray, List.set_cons_zero, List.set_cons_succ]
        refine wpAnyH_ready (rs := [7]) (by kernel_rfl) (by simp) (AllReadyH.cons ((List.getElem?_toArray ..).trans rfl) (fun KK hKK => ?_) AllReadyH.nil)
        go_simp
        refine hKK.out _ _ ⟨S.c 3 0 rfl rfl, S.c 3 1 rfl rfl, S.c 0 0 rfl rfl, S.c 0 1 rfl rfl, S.c 0 2 rfl rfl⟩ (fun hS => ?_)
        clear hKK KK
        try simp only [Act.put, List.setIfInBounds_toArray, List.set_cons_zero, List.set_cons_succ]
        refine wpAnyH_ready (rs := [8]) (by kernel_rfl) (by simp) (AllReadyH.cons ((List.getElem?_toArray ..).trans rfl) (fun KK hKK => ?_) AllReadyH.nil)
        go_simp
        refine hKK.out _ _ ⟨S.c 3 0 rfl rfl, S.c 3 1 rfl rfl, S.c 0 0 rfl rfl, S.c 0 1 rfl rfl, S.c 0 2 rfl rfl⟩ (fun hS => ?_)
        clear hKK KK
        try simp only [Act.put, List.setIfInBounds_toArray, List.set_cons_zero, List.set_cons_succ]
        refine wpAnyH_done (by kernel_rfl) ?_ _
        have c0_0 := S.c 0 0 rfl rfl
        have c0_1 := S.c 0 1 rfl rfl
        have c0_2 := S.c 0 2 rfl rfl
        have c2_0 := S.c 2 0 rfl rfl
        have c2_1 := S.c 2 1 rfl rfl
        have c3_0 := S.c 3 0 rfl rfl
        have c3_1 := S.c 3 1 rfl rfl
        go_wp2_with fail
        clear c0_0 c0_1 c0_2 c2_0 c2_1 c3_0 c3_1
        refine (S.call (wsub_to ⟨_, _, _, rfl, nc⟩ ⟨_, _, _, rfl, nf⟩ (nb_max HC.out.2 (by decide)) (nb_max HF.out.2 (by decide)) zd HD.out.1 HD.out.2)).mono ?_
        clear S
        rintro e w67 ⟨⟨_, rfl, pd, ld, Kd, rfl, nd⟩, S, H⟩
        replace nA := nA.hold H
        replace dA := dA.hold H
        replace nf := nf.hold H
        replace nc := nc.hold H
        replace nF := nF.hold H
        replace dF := dF.hold H
        replace nG := nG.hold H
        replace dG := dG.hold H
        clear H
        have c0_0 := S.c 0 0 rfl rfl
        have c0_1 := S.c 0 1 rfl rfl
        have c0_2 := S.c 0 2 rfl rfl
        have c2_0 := S.c 2 0 rfl rfl
        have c2_1 := S.c 2 1 rfl rfl
        have c3_0 := S.c 3 0 rfl rfl
        have c3_1 := S.c 3 1 rfl rfl
        have H := S.hnew 25 [.bool (negB zd), .slice pd ld Kd]
        replace S := S.alloc 25 [.bool (negB zd), .slice pd ld Kd] (w67.heap.size)
        replace nA := nA.hold H
        replace dA := dA.hold H
        replace nf := nf.hold H
        replace nc := nc.hold H
        replace nF := nF.hold H
        replace dF := dF.hold H
        replace nG := nG.hold H
        replace dG := dG.hold H
        replace nd := nd.hold H
        clear H
        clear c0_0 c0_1 c0_2 c2_0 c2_1 c3_0 c3_1
        have c0_0 := S.c 0 0 rfl rfl
        have c0_1 := S.c 0 1 rfl rfl
        have c0_2 := S.c 0 2 rfl rfl
        have c2_0 := S.c 2 0 rfl rfl
        have c2_1 := S.c 2 1 rfl rfl
        have c3_0 := S.c 3 0 rfl rfl
        have c3_1 := S.c 3 1 rfl rfl
        have c4_0 := S.c 4 0 rfl rfl
        have c4_1 := S.c 4 1 rfl rfl
        go_upto_region 9 with fail
        clear c0_0 c0_1 c0_2 c2_0 c2_1 c3_0 c3_1 c4_0 c4_1
        replace nA := nA.hold (Hold.drew _)
        replace dA := dA.hold (Hold.drew _)
        replace nf := nf.hold (Hold.drew _)
        replace nc := nc.hold (Hold.drew _)
        replace nF := nF.hold (Hold.drew _)
        replace dF := dF.hold (Hold.drew _)
        replace nG := nG.hold (Hold.drew _)
        replace dG := dG.hold (Hold.drew _)
        replace nd := nd.hold (Hold.drew _)
        replace S := S.drew
        refine wp_region_held_drew (S := fun W => W.cell? ⟨w.heap.size, 1, none⟩ = some (.slice pA lA KA) ∧ W.cell? ⟨w.heap.size, 2, none⟩ = some (.slice qA jA JA)) (by kernel_rfl) ⟨S.c 0 1 rfl rfl, S.c 0 2 rfl rfl⟩ (fun hS => ?_)
        refine wpAnyH_take (i := 0) (v := ?_) ((List.getElem?_toArray ..).trans rfl) (by kernel_rfl) (by kernel_rfl) (by kernel_rfl) (fun _ _ _ h => h) (Or.inl ⟨rfl, fun W hW => ?_⟩) hS ?_
        rotate_left
        · obtain ⟨hW0, hW1⟩ := hW; go_simp; try first | rfl | (rw [if_neg (by first | omega | (simp only [ByteArray.size_append]; first | omega | (have h1 : (ByteArray.mk #[47]).size = 1 := rfl; omega)))]; try rfl) | kernel_rfl
        try simp only [Act.put, List.setIfInBounds_toArray, List.set_cons_zero, List.set_cons_succ]
        refine wpAnyH_take (i := 1) (v := ?_) ((List.getElem?_toArray ..).trans rfl) (by kernel_rfl) (by kernel_rfl) (by kernel_rfl) (fun _ _ _ h => h) (Or.inl ⟨rfl, fun W hW => ?_⟩) hS ?_
        rotate_left
        · obtain ⟨hW0, hW1⟩ := hW; go_simp; try first | rfl | (rw [if_neg (by first | omega | (simp only [ByteArray.size_append]; first | omega | (have h1 : (ByteArray.mk #[47]).size = 1 := rfl; omega)))]; try rfl) | kernel_rfl
        try simp only [Act.put, List.setIfInBounds_toArray, List.set_cons_zero, List.set_cons_succ]
        refine wpAnyH_ready (rs := [2]) (by kernel_rfl) (by simp) (AllReadyH.cons ((List.getElem?_toArray ..).trans rfl) (fun KK hKK => ?_) AllReadyH.nil)
        go_simp
        refine (S.call (of_any 1 _ (by decide))).mono ?_; clear S; rintro e w68 ⟨⟨_, rfl, n1⟩, S, H⟩; replace nA := nA.hold H; replace dA := dA.hold H; replace nf := nf.hold H; replace nc := nc.hold H; replace nF := nF.hold H; replace dF := dF.hold H; replace nG := nG.hold H; replace dG := dG.hold H; replace nd := nd.hold H; clear H
        go_wp2_with fail
        refine hKK.out _ _ ⟨S.c 0 1 rfl rfl, S.c 0 2 rfl rfl⟩ (fun hS => ?_)
        clear hKK KK
        try simp only [Act.put, List.setIfInBounds_toArray, List.set_cons_zero, List.set_cons_succ]
        refine wpAnyH_ready (rs := [3]) (by kernel_rfl) (by simp) (AllReadyH.cons ((List.getElem?_toArray ..).trans rfl) (fun KK hKK => ?_) AllReadyH.nil)
        go_simp
        refine (S.call (compare_nat dA n1 (rb_max RA.out (by decide)).2 (lit_max 1 (by decide)) HK.out.2.2.1)).mono ?_; clear S; rintro e w69 ⟨rfl, S, H⟩; replace nA := nA.hold H; replace dA := dA.hold H; replace nf := nf.hold H; replace nc := nc.hold H; replace nF := nF.hold H; replace dF := dF.hold H; replace nG := nG.hold H; replace dG := dG.hold H; replace nd := nd.hold H; replace n1 := n1.hold H; clear H
        go_wp2_with fail
        refine hKK.out _ _ ⟨S.c 0 1 rfl rfl, S.c 0 2 rfl rfl⟩ (fun hS => ?_)
        clear hKK KK
        try simp only [Act.put, List.setIfInBounds_toArray, List.set_cons_zero, List.set_cons_succ]
        refine wpAnyH_take (i := 4) (v := ?_) ((List.getElem?_toArray ..).trans rfl) (by kernel_rfl) (by kernel_rfl) (by kernel_rfl) (fun _ _ _ h => h) (Or.inl ⟨rfl, fun W hW => ?_⟩) hS ?_
        rotate_left
        · obtain ⟨hW0, hW1⟩ := hW; go_simp; try first | rfl | (rw [if_neg (by first | omega | (simp only [ByteArray.size_append]; first | omega | (have h1 : (ByteArray.mk #[47]).size = 1 := rfl; omega)))]; try rfl) | kernel_rfl
        try simp only [Act.put, List.setIfInBounds_toArray, List.set_cons_zero, List.set_cons_succ]
        refine wpAnyH_done (by kernel_rfl) ?_ _
        have c0_0 := S.c 0 0 rfl rfl
        have c0_1 := S.c 0 1 rfl rfl
        have c0_2 := S.c 0 2 rfl rfl
        have c2_0 := S.c 2 0 rfl rfl
        have c2_1 := S.c 2 1 rfl rfl
        have c3_0 := S.c 3 0 rfl rfl
        have c3_1 := S.c 3 1 rfl rfl
        have c4_0 := S.c 4 0 rfl rfl
        have c4_1 := S.c 4 1 rfl rfl
        go_wp2_with fail
        clear c0_0 c0_1 c0_2 c2_0 c2_1 c3_0 c3_1 c4_0 c4_1
        refine (S.call (wsame_any ⟨_, _, _, rfl, nf⟩ ⟨_, _, _, by rw [hA.out], nA⟩ (nb_max HF.out.2 (by decide)) (rb_max RA.out (by decide)).1 HK.out.2.2.2)).mono ?_
        clear S
        rintro e w70 ⟨rfl, S, H⟩
        replace nA := nA.hold H
        replace dA := dA.hold H
        replace nf := nf.hold H
        replace nc := nc.hold H
        replace nF := nF.hold H
        replace dF := dF.hold H
        replace nG := nG.hold H
        replace dG := dG.hold H
        replace nd := nd.hold H
        replace n1 := n1.hold H
        clear H
        have c0_0 := S.c 0 0 rfl rfl
        have c0_1 := S.c 0 1 rfl rfl
        have c0_2 := S.c 0 2 rfl rfl
        have c2_0 := S.c 2 0 rfl rfl
        have c2_1 := S.c 2 1 rfl rfl
        have c3_0 := S.c 3 0 rfl rfl
        have c3_1 := S.c 3 1 rfl rfl
        have c4_0 := S.c 4 0 rfl rfl
        have c4_1 := S.c 4 1 rfl rfl
        go_wp2_with fail
        exact bodyPost_ret (v := .bool true) (by simp [results, Try.f6, go_sem]) rfl (⟨rfl, S.below⟩)
    · have hr := rounds_part h1
      have hcf : cmpR ((zf : Int) : Rat) zA = -1 := by rw [← hzf]; exact cmpR_lt hr.1
      have hcc : cmpR zA ((zc : Int) : Rat) = -1 := by rw [← hzc]; exact cmpR_lt hr.2.1
      have hone : cmpI (zA.den : Int) ((1 : Nat) : Int) = 1 := by have := zA.den_nz; unfold cmpI; rw [if_neg (by omega), if_pos (by omega)]
      have hsame : (cmpI zd 1 == 0) = true := by rw [← hzd, ← hzc, ← hzf, hr.2.2]; rfl
      have HK := Lib.hid (And.intro hcf (And.intro hcc (And.intro hone hsame)))
      clear hr hcf hcc hone hsame h1 hzf hzc hzd hbf hbc hbd
      clear c0_0 c0_1 c0_2
      have c0_0 := S.c 0 0 rfl rfl
      have c0_1 := S.c 0 1 rfl rfl
      have c0_2 := S.c 0 2 rfl rfl
      go_upto_region 5 with fail
      clear c0_0 c0_1 c0_2
      go_cut [3, 4] (fun s3 s4 wx => ∃ g3 g4 pf lf Kf pc lc Kc, s3 = .pointer (some ⟨g3, 0, none⟩) ∧ s4 = .pointer (some ⟨g4, 0, none⟩) ∧ Sv w wx [(w.heap.size, 30, [.bool bA, .slice pA lA KA, .slice qA jA JA]), (w1.heap.size, 30, [.bool bA, .slice pA lA KA, .slice qA jA JA]), (g3, 25, [.bool (negB zf), .slice pf lf Kf]), (g4, 25, [.bool (negB zc), .slice pc lc Kc])] ∧ IsNat wx (.slice pf lf Kf) zf.natAbs ∧ IsNat wx (.slice pc lc Kc) zc.natAbs ∧ Hold w2 wx)
      case first =>
        have HH := Hold.drew w2
        replace nA := nA.hold HH
        replace dA := dA.hold HH
        replace S := S.drew
        refine wp_region_held_drew (S := fun W => W.cell? ⟨w.heap.size, 0, none⟩ = some (.bool bA) ∧ W.cell? ⟨w.heap.size, 1, none⟩ = some (.slice pA lA KA) ∧ W.cell? ⟨w.heap.size, 2, none⟩ = some (.slice qA jA JA)) (by kernel_rfl) ⟨S.c 0 0 rfl rfl, S.c 0 1 rfl rfl, S.c 0 2 rfl rfl⟩ (fun hS => ?_)
        generalize w2.drew = w3 at S nA dA HH hS ⊢
        refine wpAnyH_take (i := 0) (v := ?_) ((List.getElem?_toArray ..).trans rfl) (by kernel_rfl) (by kernel_rfl) (by kernel_rfl) (fun _ _ _ h => h) (Or.inl ⟨rfl, fun W hW => ?_⟩) hS ?_
        rotate_left
        · obtain ⟨hW0, hW1, hW2⟩ := hW; go_simp; try first | rfl | (rw [if_neg (by first | omega | (simp only [ByteArray.size_append]; first | omega | (have h1 : (ByteArray.mk #[47]).size = 1 := rfl; omega)))]; try rfl) | kernel_rfl
        try simp only [Act.put, List.setIfInBounds_toArray, List.set_cons_zero, List.set_cons_succ]
        refine wpAnyH_take (i := 2) (v := ?_) ((List.getElem?_toArray ..).trans rfl) (by kernel_rfl) (by kernel_rfl) (by kernel_rfl) (fun _ _ _ h => h) (Or.inl ⟨rfl, fun W hW => ?_⟩) hS ?_
        rotate_left
        · obtain ⟨hW0, hW1, hW2⟩ := hW; go_simp; try first | rfl | (rw [if_neg (by first | omega | (simp only [ByteArray.size_append]; first | omega | (have h1 : (ByteArray.mk #[47]).size = 1 := rfl; omega)))]; try rfl) | kernel_rfl
        try simp only [Act.put, List.setIfInBounds_toArray, List.set_cons_zero, List.set_cons_succ]
        refine wpAnyH_ready (rs := [1, 4, 5]) (by kernel_rfl) (by simp) (AllReadyH.cons ((List.getElem?_toArray ..).trans rfl) (fun KK hKK => ?_) (AllReadyH.cons ((List.getElem?_toArray ..).trans rfl) (fun KK hKK => ?_) (AllReadyH.cons ((List.getElem?_toArray ..).trans rfl) (fun KK hKK => ?_) AllReadyH.nil)))
        ·
          go_simp
          clear hS
          refine (S.call (rfloor_any ⟨bA, pA, lA, KA, qA, jA, JA, rfl, hA, nA, dA⟩ (rb_max RA.out (by decide)) zf HF.out.1)).mono ?_
          clear S
          rintro e w4 ⟨⟨_, rfl, pf, lf, Kf, rfl, nf⟩, S, H⟩
          replace nA := nA.hold H
          replace dA := dA.hold H
          replace HH := HH.trans H
          clear H
          go_wp2_with fail
          refine hKK.out _ _ ⟨S.c 0 0 rfl rfl, S.c 0 1 rfl rfl, S.c 0 2 rfl rfl⟩ (fun hS => ?_)
          clear hKK KK
          try simp only [Act.put, List.setIfInBounds_toArray, List.set_cons_zero, List.set_cons_succ]
          refine wpAnyH_ready (rs := [3, 4, 5]) (by kernel_rfl) (by simp) (AllReadyH.cons ((List.getElem?_toArray ..).trans rfl) (fun KK hKK => ?_) (AllReadyH.cons ((List.getElem?_toArray ..).trans rfl) (fun KK hKK => ?_) (AllReadyH.cons ((List.getElem?_toArray ..).trans rfl) (fun KK hKK => ?_) AllReadyH.nil)))
          ·
            go_simp
            clear hS
            refine (S.call (rceil_any ⟨bA, pA, lA, KA, qA, jA, JA, rfl, hA, nA, dA⟩ (rb_max RA.out (by decide)) zc HC.out.1)).mono ?_
            clear S
            rintro e w5 ⟨⟨_, rfl, pc, lc, Kc, rfl, nc⟩, S, H⟩
            replace nA := nA.hold H
            replace dA := dA.hold H
            replace nf := nf.hold H
            replace HH := HH.trans H
            clear H
            go_wp2_with fail
            refine hKK.out _ _ ⟨S.c 0 0 rfl rfl, S.c 0 1 rfl rfl, S.c 0 2 rfl rfl⟩ (fun hS => ?_)
            clear hKK KK
            try simp only [Act.put, List.setIfInBounds_toArray, List.set_cons_zero, List.set_cons_succ]
            refine wpAnyH_ready (rs := [4, 5]) (by kernel_rfl) (by simp) (AllReadyH.cons ((List.getElem?_toArray ..).trans rfl) (fun KK hKK => ?_) (AllReadyH.cons ((List.getElem?_toArray ..).trans rfl) (fun KK hKK => ?_) AllReadyH.nil))
            ·
              go_simp
              clear hS
              have H := S.hnew 25 [.bool false, .slice none 0 0]
              replace S := S.alloc 25 [.bool false, .slice none 0 0] (w5.heap.size)
              replace nA := nA.hold H
              replace dA := dA.hold H
              replace nf := nf.hold H
              replace nc := nc.hold H
              replace HH := HH.trans H
              clear H
              refine hKK.out _ _ ⟨S.c 0 0 rfl rfl, S.c 0 1 rfl rfl, S.c 0 2 rfl rfl⟩ (fun hS => ?_)
              generalize (w5.alloc (.cells #[.bool false, .slice none 0 0] 25)) = w6 at S nA dA nf nc HH hS ⊢
              clear hKK KK
              try simp only [Act.put, List.setIfInBounds_toArray, List.set_cons_zero, List.set_cons_succ]
              refine wpAnyH_ready (rs := [5]) (by kernel_rfl) (by simp) (AllReadyH.cons ((List.getElem?_toArray ..).trans rfl) (fun KK hKK => ?_) AllReadyH.nil)
              go_simp
              clear hS
              have H := S.hnew 25 [.bool false, .slice none 0 0]
              replace S := S.alloc 25 [.bool false, .slice none 0 0] (w6.heap.size)
              replace nA := nA.hold H
              replace dA := dA.hold H
              replace nf := nf.hold H
              replace nc := nc.hold H
              replace HH := HH.trans H
              clear H
              refine hKK.out _ _ ⟨S.c 0 0 rfl rfl, S.c 0 1 rfl rfl, S.c 0 2 rfl rfl⟩ (fun hS => ?_)
              generalize (w6.alloc (.cells #[.bool false, .slice none 0 0] 25)) = w7 at S nA dA nf nc HH hS ⊢
              clear hKK KK
              try simp only [Act.put, List.setIfInBounds_toArray, List.set_cons_zero, List.set_cons_succ]
              refine wpAnyH_ready (rs := [6]) (by kernel_rfl) (by simp) (AllReadyH.cons ((List.getElem?_toArray ..).trans rfl) (fun KK hKK => ?_) AllReadyH.nil)
              have c0 := S.c 2 0 rfl rfl
              have f0 := S.f 2 0 rfl
              have c1 := S.c 2 1 rfl rfl
              have f1 := S.f 2 1 rfl
              go_simp
              clear hS c0 f0 c1 f1
              have H := S.hset 2 0 (.bool (negB zf)) rfl rfl (by intro q n e; cases e)
              replace S := S.set 2 0 (.bool (negB zf)) rfl
              replace nA := nA.hold H
              replace dA := dA.hold H
              replace nf := nf.hold H
              replace nc := nc.hold H
              replace HH := HH.trans H
              clear H
              have H := S.hset 2 1 (.slice pf lf Kf) rfl rfl (by intro q n e; cases e)
              replace S := S.set 2 1 (.slice pf lf Kf) rfl
              replace nA := nA.hold H
              replace dA := dA.hold H
              replace nf := nf.hold H
              replace nc := nc.hold H
              replace HH := HH.trans H
              clear H
              refine hKK.out _ _ ⟨S.c 0 0 rfl rfl, S.c 0 1 rfl rfl, S.c 0 2 rfl rfl⟩ (fun hS => ?_)
              generalize ((w7.setCell ⟨w5.heap.size, 0, none⟩ (.bool (negB zf))).setCell ⟨w5.heap.size, 1, none⟩ (.slice pf lf Kf)) = w8 at S nA dA nf nc HH hS ⊢
              clear hKK KK
              try simp only [Act.put, List.setIfInBounds_toArray, List.set_cons_zero, List.set_cons_succ]
              refine wpAnyH_ready (rs := [7]) (by kernel_rfl) (by simp) (AllReadyH.cons ((List.getElem?_toArray ..).trans rfl) (fun KK hKK => ?_) AllReadyH.nil)
              have c0 := S.c 3 0 rfl rfl
              have f0 := S.f 3 0 rfl
              have c1 := S.c 3 1 rfl rfl
              have f1 := S.f 3 1 rfl
              go_simp
              clear hS c0 f0 c1 f1
              have H := S.hset 3 0 (.bool (negB zc)) rfl rfl (by intro q n e; cases e)
              replace S := S.set 3 0 (.bool (negB zc)) rfl
              replace nA := nA.hold H
              replace dA := dA.hold H
              replace nf := nf.hold H
              replace nc := nc.hold H
              replace HH := HH.trans H
              clear H
              have H := S.hset 3 1 (.slice pc lc Kc) rfl rfl (by intro q n e; cases e)
              replace S := S.set 3 1 (.slice pc lc Kc) rfl
              replace nA := nA.hold H
              replace dA := dA.hold H
              replace nf := nf.hold H
              replace nc := nc.hold H
              replace HH := HH.trans H
              clear H
              refine hKK.out _ _ ⟨S.c 0 0 rfl rfl, S.c 0 1 rfl rfl, S.c 0 2 rfl rfl⟩ (fun hS => ?_)
              generalize ((w8.setCell ⟨w6.heap.size, 0, none⟩ (.bool (negB zc))).setCell ⟨w6.heap.size, 1, none⟩ (.slice pc lc Kc)) = w9 at S nA dA nf nc HH hS ⊢
              clear hKK KK
              try simp only [Act.put, List.setIfInBounds_toArray, List.set_cons_zero, List.set_cons_succ]
              refine wpAnyH_done (by kernel_rfl) ?_ _
              go_wp2_with fail
              go_meet
              case rel => exact ⟨w5.heap.size, w6.heap.size, pf, lf, Kf, pc, lc, Kc, rfl, rfl, Sv.of S [0, 1, 2, 3] rfl, nf, nc, HH⟩
            ·
              go_simp
              clear hS
              have H := S.hnew 25 [.bool false, .slice none 0 0]
              replace S := S.alloc 25 [.bool false, .slice none 0 0] (w5.heap.size)
              replace nA := nA.hold H
              replace dA := dA.hold H
              replace nf := nf.hold H
              replace nc := nc.hold H
              replace HH := HH.trans H
              clear H
              refine hKK.out _ _ ⟨S.c 0 0 rfl rfl, S.c 0 1 rfl rfl, S.c 0 2 rfl rfl⟩ (fun hS => ?_)
              generalize (w5.alloc (.cells #[.bool false, .slice none 0 0] 25)) = w10 at S nA dA nf nc HH hS ⊢
              clear hKK KK
              try simp only [Act.put, List.setIfInBounds_toArray, List.set_cons_zero, List.set_cons_succ]
              refine wpAnyH_ready (rs := [4]) (by kernel_rfl) (by simp) (AllReadyH.cons ((List.getElem?_toArray ..).trans rfl) (fun KK hKK => ?_) AllReadyH.nil)
              go_simp
              clear hS
              have H := S.hnew 25 [.bool false, .slice none 0 0]
              replace S := S.alloc 25 [.bool false, .slice none 0 0] (w10.heap.size)
              replace nA := nA.hold H
              replace dA := dA.hold H
              replace nf := nf.hold H
              replace nc := nc.hold H
              replace HH := HH.trans H
              clear H
              refine hKK.out _ _ ⟨S.c 0 0 rfl rfl, S.c 0 1 rfl rfl, S.c 0 2 rfl rfl⟩ (fun hS => ?_)
              generalize (w10.alloc (.cells #[.bool false, .slice none 0 0] 25)) = w11 at S nA dA nf nc HH hS ⊢
              clear hKK KK
              try simp only [Act.put, List.setIfInBounds_toArray, List.set_cons_zero, List.set_cons_succ]
              refine wpAnyH_ready (rs := [6]) (by kernel_rfl) (by simp) (AllReadyH.cons ((List.getElem?_toArray ..).trans rfl) (fun KK hKK => ?_) AllReadyH.nil)
              have c0 := S.c 3 0 rfl rfl
              have f0 := S.f 3 0 rfl
              have c1 := S.c 3 1 rfl rfl
              have f1 := S.f 3 1 rfl
              go_simp
              clear hS c0 f0 c1 f1
              have H := S.hset 3 0 (.bool (negB zf)) rfl rfl (by intro q n e; cases e)
              replace S := S.set 3 0 (.bool (negB zf)) rfl
              replace nA := nA.hold H
              replace dA := dA.hold H
              replace nf := nf.hold H
              replace nc := nc.hold H
              replace HH := HH.trans H
              clear H
              have H := S.hset 3 1 (.slice pf lf Kf) rfl rfl (by intro q n e; cases e)
              replace S := S.set 3 1 (.slice pf lf Kf) rfl
              replace nA := nA.hold H
              replace dA := dA.hold H
              replace nf := nf.hold H
              replace nc := nc.hold H
              replace HH := HH.trans H
              clear H
              refine hKK.out _ _ ⟨S.c 0 0 rfl rfl, S.c 0 1 rfl rfl, S.c 0 2 rfl rfl⟩ (fun hS => ?_)
              generalize ((w11.setCell ⟨w10.heap.size, 0, none⟩ (.bool (negB zf))).setCell ⟨w10.heap.size, 1, none⟩ (.slice pf lf Kf)) = w12 at S nA dA nf nc HH hS ⊢
              clear hKK KK
              try simp only [Act.put, List.setIfInBounds_toArray, List.set_cons_zero, List.set_cons_succ]
              refine wpAnyH_ready (rs := [7]) (by kernel_rfl) (by simp) (AllReadyH.cons ((List.getElem?_toArray ..).trans rfl) (fun KK hKK => ?_) AllReadyH.nil)
              have c0 := S.c 2 0 rfl rfl
              have f0 := S.f 2 0 rfl
              have c1 := S.c 2 1 rfl rfl
              have f1 := S.f 2 1 rfl
              go_simp
              clear hS c0 f0 c1 f1
              have H := S.hset 2 0 (.bool (negB zc)) rfl rfl (by intro q n e; cases e)
              replace S := S.set 2 0 (.bool (negB zc)) rfl
              replace nA := nA.hold H
              replace dA := dA.hold H
              replace nf := nf.hold H
              replace nc := nc.hold H
              replace HH := HH.trans H
              clear H
              have H := S.hset 2 1 (.slice pc lc Kc) rfl rfl (by intro q n e; cases e)
              replace S := S.set 2 1 (.slice pc lc Kc) rfl
              replace nA := nA.hold H
              replace dA := dA.hold H
              replace nf := nf.hold H
              replace nc := nc.hold H
              replace HH := HH.trans H
              clear H
              refine hKK.out _ _ ⟨S.c 0 0 rfl rfl, S.c 0 1 rfl rfl, S.c 0 2 rfl rfl⟩ (fun hS => ?_)
              generalize ((w12.setCell ⟨w5.heap.size, 0, none⟩ (.bool (negB zc))).setCell ⟨w5.heap.size, 1, none⟩ (.slice pc lc Kc)) = w13 at S nA dA nf nc HH hS ⊢
              clear hKK KK
              try simp only [Act.put, List.setIfInBounds_toArray, List.set_cons_zero, List.set_cons_succ]
              refine wpAnyH_done (by kernel_rfl) ?_ _
              go_wp2_with fail
              go_meet
              case rel => exact ⟨w10.heap.size, w5.heap.size, pf, lf, Kf, pc, lc, Kc, rfl, rfl, Sv.of S [0, 1, 3, 2] rfl, nf, nc, HH⟩
          ·
            go_simp
            clear hS
            have H := S.hnew 25 [.bool false, .slice none 0 0]
            replace S := S.alloc 25 [.bool false, .slice none 0 0] (w4.heap.size)
            replace nA := nA.hold H
            replace dA := dA.hold H
            replace nf := nf.hold H
            replace HH := HH.trans H
            clear H
            refine hKK.out _ _ ⟨S.c 0 0 rfl rfl, S.c 0 1 rfl rfl, S.c 0 2 rfl rfl⟩ (fun hS => ?_)
            generalize (w4.alloc (.cells #[.bool false, .slice none 0 0] 25)) = w14 at S nA dA nf HH hS ⊢
            clear hKK KK
            try simp only [Act.put, List.setIfInBounds_toArray, List.set_cons_zero, List.set_cons_succ]
            refine wpAnyH_ready (rs := [3, 5]) (by kernel_rfl) (by simp) (AllReadyH.cons ((List.getElem?_toArray ..).trans rfl) (fun KK hKK => ?_) (AllReadyH.cons ((List.getElem?_toArray ..).trans rfl) (fun KK hKK => ?_) AllReadyH.nil))
            ·
              go_simp
              clear hS
              refine (S.call (rceil_any ⟨bA, pA, lA, KA, qA, jA, JA, rfl, hA, nA, dA⟩ (rb_max RA.out (by decide)) zc HC.out.1)).mono ?_
              clear S
              rintro e w15 ⟨⟨_, rfl, pc, lc, Kc, rfl, nc⟩, S, H⟩
              replace nA := nA.hold H
              replace dA := dA.hold H
              replace nf := nf.hold H
              replace HH := HH.trans H
              clear H
              go_wp2_with fail
              refine hKK.out _ _ ⟨S.c 0 0 rfl rfl, S.c 0 1 rfl rfl, S.c 0 2 rfl rfl⟩ (fun hS => ?_)
              clear hKK KK
              try simp only [Act.put, List.setIfInBounds_toArray, List.set_cons_zero, List.set_cons_succ]
              refine wpAnyH_ready (rs := [5]) (by kernel_rfl) (by simp) (AllReadyH.cons ((List.getElem?_toArray ..).trans rfl) (fun KK hKK => ?_) AllReadyH.nil)
              go_simp
              clear hS
              have H := S.hnew 25 [.bool false, .slice none 0 0]
              replace S := S.alloc 25 [.bool false, .slice none 0 0] (w15.heap.size)
              replace nA := nA.hold H
              replace dA := dA.hold H
              replace nf := nf.hold H
              replace nc := nc.hold H
              replace HH := HH.trans H
              clear H
              refine hKK.out _ _ ⟨S.c 0 0 rfl rfl, S.c 0 1 rfl rfl, S.c 0 2 rfl rfl⟩ (fun hS => ?_)
              generalize (w15.alloc (.cells #[.bool false, .slice none 0 0] 25)) = w16 at S nA dA nf nc HH hS ⊢
              clear hKK KK
              try simp only [Act.put, List.setIfInBounds_toArray, List.set_cons_zero, List.set_cons_succ]
              refine wpAnyH_ready (rs := [6]) (by kernel_rfl) (by simp) (AllReadyH.cons ((List.getElem?_toArray ..).trans rfl) (fun KK hKK => ?_) AllReadyH.nil)
              have c0 := S.c 2 0 rfl rfl
              have f0 := S.f 2 0 rfl
              have c1 := S.c 2 1 rfl rfl
              have f1 := S.f 2 1 rfl
              go_simp
              clear hS c0 f0 c1 f1
              have H := S.hset 2 0 (.bool (negB zf)) rfl rfl (by intro q n e; cases e)
              replace S := S.set 2 0 (.bool (negB zf)) rfl
              replace nA := nA.hold H
              replace dA := dA.hold H
              replace nf := nf.hold H
              replace nc := nc.hold H
              replace HH := HH.trans H
              clear H
              have H := S.hset 2 1 (.slice pf lf Kf) rfl rfl (by intro q n e; cases e)
              replace S := S.set 2 1 (.slice pf lf Kf) rfl
              replace nA := nA.hold H
              replace dA := dA.hold H
              replace nf := nf.hold H
              replace nc := nc.hold H
              replace HH := HH.trans H
              clear H
              refine hKK.out _ _ ⟨S.c 0 0 rfl rfl, S.c 0 1 rfl rfl, S.c 0 2 rfl rfl⟩ (fun hS => ?_)
              generalize ((w16.setCell ⟨w4.heap.size, 0, none⟩ (.bool (negB zf))).setCell ⟨w4.heap.size, 1, none⟩ (.slice pf lf Kf)) = w17 at S nA dA nf nc HH hS ⊢
              clear hKK KK
              try simp only [Act.put, List.setIfInBounds_toArray, List.set_cons_zero, List.set_cons_succ]
              refine wpAnyH_ready (rs := [7]) (by kernel_rfl) (by simp) (AllReadyH.cons ((List.getElem?_toArray ..).trans rfl) (fun KK hKK => ?_) AllReadyH.nil)
              have c0 := S.c 3 0 rfl rfl
              have f0 := S.f 3 0 rfl
              have c1 := S.c 3 1 rfl rfl
              have f1 := S.f 3 1 rfl
              go_simp
              clear hS c0 f0 c1 f1
              have H := S.hset 3 0 (.bool (negB zc)) rfl rfl (by intro q n e; cases e)
              replace S := S.set 3 0 (.bool (negB zc)) rfl
              replace nA := nA.hold H
              replace dA := dA.hold H
              replace nf := nf.hold H
              replace nc := nc.hold H
              replace HH := HH.trans H
              clear H
              have H := S.hset 3 1 (.slice pc lc Kc) rfl rfl (by intro q n e; cases e)
              replace S := S.set 3 1 (.slice pc lc Kc) rfl
              replace nA := nA.hold H
              replace dA := dA.hold H
              replace nf := nf.hold H
              replace nc := nc.hold H
              replace HH := HH.trans H
              clear H
              refine hKK.out _ _ ⟨S.c 0 0 rfl rfl, S.c 0 1 rfl rfl, S.c 0 2 rfl rfl⟩ (fun hS => ?_)
              generalize ((w17.setCell ⟨w15.heap.size, 0, none⟩ (.bool (negB zc))).setCell ⟨w15.heap.size, 1, none⟩ (.slice pc lc Kc)) = w18 at S nA dA nf nc HH hS ⊢
              clear hKK KK
              try simp only [Act.put, List.setIfInBounds_toArray, List.set_cons_zero, List.set_cons_succ]
              refine wpAnyH_done (by kernel_rfl) ?_ _
              go_wp2_with fail
              go_meet
              case rel => exact ⟨w4.heap.size, w15.heap.size, pf, lf, Kf, pc, lc, Kc, rfl, rfl, Sv.of S [0, 1, 2, 3] rfl, nf, nc, HH⟩
            ·
              go_simp
              clear hS
              have H := S.hnew 25 [.bool false, .slice none 0 0]
              replace S := S.alloc 25 [.bool false, .slice none 0 0] (w14.heap.size)
              replace nA := nA.hold H
              replace dA := dA.hold H
              replace nf := nf.hold H
              replace HH := HH.trans H
              clear H
              refine hKK.out _ _ ⟨S.c 0 0 rfl rfl, S.c 0 1 rfl rfl, S.c 0 2 rfl rfl⟩ (fun hS => ?_)
              generalize (w14.alloc (.cells #[.bool false, .slice none 0 0] 25)) = w19 at S nA dA nf HH hS ⊢
              clear hKK KK
              try simp only [Act.put, List.setIfInBounds_toArray, List.set_cons_zero, List.set_cons_succ]
              refine wpAnyH_ready (rs := [3]) (by kernel_rfl) (by simp) (AllReadyH.cons ((List.getElem?_toArray ..).trans rfl) (fun KK hKK => ?_) AllReadyH.nil)
              go_simp
              clear hS
              refine (S.call (rceil_any ⟨bA, pA, lA, KA, qA, jA, JA, rfl, hA, nA, dA⟩ (rb_max RA.out (by decide)) zc HC.out.1)).mono ?_
              clear S
              rintro e w20 ⟨⟨_, rfl, pc, lc, Kc, rfl, nc⟩, S, H⟩
              replace nA := nA.hold H
              replace dA := dA.hold H
              replace nf := nf.hold H
              replace HH := HH.trans H
              clear H
              go_wp2_with fail
              refine hKK.out _ _ ⟨S.c 0 0 rfl rfl, S.c 0 1 rfl rfl, S.c 0 2 rfl rfl⟩ (fun hS => ?_)
              clear hKK KK
              try simp only [Act.put, List.setIfInBounds_toArray, List.set_cons_zero, List.set_cons_succ]
              refine wpAnyH_ready (rs := [6]) (by kernel_rfl) (by simp) (AllReadyH.cons ((List.getElem?_toArray ..).trans rfl) (fun KK hKK => ?_) AllReadyH.nil)
              have c0 := S.c 2 0 rfl rfl
              have f0 := S.f 2 0 rfl
              have c1 := S.c 2 1 rfl rfl
              have f1 := S.f 2 1 rfl
              go_simp
              clear hS c0 f0 c1 f1
              have H := S.hset 2 0 (.bool (negB zf)) rfl rfl (by intro q n e; cases e)
              replace S := S.set 2 0 (.bool (negB zf)) rfl
              replace nA := nA.hold H
              replace dA := dA.hold H
              replace nf := nf.hold H
              replace nc := nc.hold H
              replace HH := HH.trans H
              clear H
              have H := S.hset 2 1 (.slice pf lf Kf) rfl rfl (by intro q n e; cases e)
              replace S := S.set 2 1 (.slice pf lf Kf) rfl
              replace nA := nA.hold H
              replace dA := dA.hold H
              replace nf := nf.hold H
              replace nc := nc.hold H
              replace HH := HH.trans H
              clear H
              refine hKK.out _ _ ⟨S.c 0 0 rfl rfl, S.c 0 1 rfl rfl, S.c 0 2 rfl rfl⟩ (fun hS => ?_)
              generalize ((w20.setCell ⟨w4.heap.size, 0, none⟩ (.bool (negB zf))).setCell ⟨w4.heap.size, 1, none⟩ (.slice pf lf Kf)) = w21 at S nA dA nf nc HH hS ⊢
              clear hKK KK
              try simp only [Act.put, List.setIfInBounds_toArray, List.set_cons_zero, List.set_cons_succ]
              refine wpAnyH_ready (rs := [7]) (by kernel_rfl) (by simp) (AllReadyH.cons ((List.getElem?_toArray ..).trans rfl) (fun KK hKK => ?_) AllReadyH.nil)
              have c0 := S.c 3 0 rfl rfl
              have f0 := S.f 3 0 rfl
              have c1 := S.c 3 1 rfl rfl
              have f1 := S.f 3 1 rfl
              go_simp
              clear hS c0 f0 c1 f1
              have H := S.hset 3 0 (.bool (negB zc)) rfl rfl (by intro q n e; cases e)
              replace S := S.set 3 0 (.bool (negB zc)) rfl
              replace nA := nA.hold H
              replace dA := dA.hold H
              replace nf := nf.hold H
              replace nc := nc.hold H
              replace HH := HH.trans H
              clear H
              have H := S.hset 3 1 (.slice pc lc Kc) rfl rfl (by intro q n e; cases e)
              replace S := S.set 3 1 (.slice pc lc Kc) rfl
              replace nA := nA.hold H
              replace dA := dA.hold H
              replace nf := nf.hold H
              replace nc := nc.hold H
              replace HH := HH.trans H
              clear H
              refine hKK.out _ _ ⟨S.c 0 0 rfl rfl, S.c 0 1 rfl rfl, S.c 0 2 rfl rfl⟩ (fun hS => ?_)
              generalize ((w21.setCell ⟨w14.heap.size, 0, none⟩ (.bool (negB zc))).setCell ⟨w14.heap.size, 1, none⟩ (.slice pc lc Kc)) = w22 at S nA dA nf nc HH hS ⊢
              clear hKK KK
              try simp only [Act.put, List.setIfInBounds_toArray, List.set_cons_zero, List.set_cons_succ]
              refine wpAnyH_done (by kernel_rfl) ?_ _
              go_wp2_with fail
              go_meet
              case rel => exact ⟨w4.heap.size, w14.heap.size, pf, lf, Kf, pc, lc, Kc, rfl, rfl, Sv.of S [0, 1, 2, 3] rfl, nf, nc, HH⟩
          ·
            go_simp
            clear hS
            have H := S.hnew 25 [.bool false, .slice none 0 0]
            replace S := S.alloc 25 [.bool false, .slice none 0 0] (w4.heap.size)
            replace nA := nA.hold H
            replace dA := dA.hold H
            replace nf := nf.hold H
            replace HH := HH.trans H
            clear H
            refine hKK.out _ _ ⟨S.c 0 0 rfl rfl, S.c 0 1 rfl rfl, S.c 0 2 rfl rfl⟩ (fun hS => ?_)
            generalize (w4.alloc (.cells #[.bool false, .slice none 0 0] 25)) = w23 at S nA dA nf HH hS ⊢
            clear hKK KK
            try simp only [Act.put, List.setIfInBounds_toArray, List.set_cons_zero, List.set_cons_succ]
            refine wpAnyH_ready (rs := [3, 4]) (by kernel_rfl) (by simp) (AllReadyH.cons ((List.getElem?_toArray ..).trans rfl) (fun KK hKK => ?_) (AllReadyH.cons ((List.getElem?_toArray ..).trans rfl) (fun KK hKK => ?_) AllReadyH.nil))
            ·
              go_simp
              clear hS
              refine (S.call (rceil_any ⟨bA, pA, lA, KA, qA, jA, JA, rfl, hA, nA, dA⟩ (rb_max RA.out (by decide)) zc HC.out.1)).mono ?_
              clear S
              rintro e w24 ⟨⟨_, rfl, pc, lc, Kc, rfl, nc⟩, S, H⟩
              replace nA := nA.hold H
              replace dA := dA.hold H
              replace nf := nf.hold H
              replace HH := HH.trans H
              clear H
              go_wp2_with fail
              refine hKK.out _ _ ⟨S.c 0 0 rfl rfl, S.c 0 1 rfl rfl, S.c 0 2 rfl rfl⟩ (fun hS => ?_)
              clear hKK KK
              try simp only [Act.put, List.setIfInBounds_toArray, List.set_cons_zero, List.set_cons_succ]
              refine wpAnyH_ready (rs := [4]) (by kernel_rfl) (by simp) (AllReadyH.cons ((List.getElem?_toArray ..).trans rfl) (fun KK hKK => ?_) AllReadyH.nil)
              go_simp
              clear hS
              have H := S.hnew 25 [.bool false, .slice none 0 0]
              replace S := S.alloc 25 [.bool false, .slice none 0 0] (w24.heap.size)
              replace nA := nA.hold H
              replace dA := dA.hold H
              replace nf := nf.hold H
              replace nc := nc.hold H
              replace HH := HH.trans H
              clear H
              refine hKK.out _ _ ⟨S.c 0 0 rfl rfl, S.c 0 1 rfl rfl, S.c 0 2 rfl rfl⟩ (fun hS => ?_)
              generalize (w24.alloc (.cells #[.bool false, .slice none 0 0] 25)) = w25 at S nA dA nf nc HH hS ⊢
              clear hKK KK
              try simp only [Act.put, List.setIfInBounds_toArray, List.set_cons_zero, List.set_cons_succ]
              refine wpAnyH_ready (rs := [6]) (by kernel_rfl) (by simp) (AllReadyH.cons ((List.getElem?_toArray ..).trans rfl) (fun KK hKK => ?_) AllReadyH.nil)
              have c0 := S.c 3 0 rfl rfl
              have f0 := S.f 3 0 rfl
              have c1 := S.c 3 1 rfl rfl
              have f1 := S.f 3 1 rfl
              go_simp
              clear hS c0 f0 c1 f1
              have H := S.hset 3 0 (.bool (negB zf)) rfl rfl (by intro q n e; cases e)
              replace S := S.set 3 0 (.bool (negB zf)) rfl
              replace nA := nA.hold H
              replace dA := dA.hold H
              replace nf := nf.hold H
              replace nc := nc.hold H
              replace HH := HH.trans H
              clear H
              have H := S.hset 3 1 (.slice pf lf Kf) rfl rfl (by intro q n e; cases e)
              replace S := S.set 3 1 (.slice pf lf Kf) rfl
              replace nA := nA.hold H
              replace dA := dA.hold H
              replace nf := nf.hold H
              replace nc := nc.hold H
              replace HH := HH.trans H
              clear H
              refine hKK.out _ _ ⟨S.c 0 0 rfl rfl, S.c 0 1 rfl rfl, S.c 0 2 rfl rfl⟩ (fun hS => ?_)
              generalize ((w25.setCell ⟨w24.heap.size, 0, none⟩ (.bool (negB zf))).setCell ⟨w24.heap.size, 1, none⟩ (.slice pf lf Kf)) = w26 at S nA dA nf nc HH hS ⊢
              clear hKK KK
              try simp only [Act.put, List.setIfInBounds_toArray, List.set_cons_zero, List.set_cons_succ]
              refine wpAnyH_ready (rs := [7]) (by kernel_rfl) (by simp) (AllReadyH.cons ((List.getElem?_toArray ..).trans rfl) (fun KK hKK => ?_) AllReadyH.nil)
              have c0 := S.c 2 0 rfl rfl
              have f0 := S.f 2 0 rfl
              have c1 := S.c 2 1 rfl rfl
              have f1 := S.f 2 1 rfl
              go_simp
              clear hS c0 f0 c1 f1
              have H := S.hset 2 0 (.bool (negB zc)) rfl rfl (by intro q n e; cases e)
              replace S := S.set 2 0 (.bool (negB zc)) rfl
              replace nA := nA.hold H
              replace dA := dA.hold H
              replace nf := nf.hold H
              replace nc := nc.hold H
              replace HH := HH.trans H
              clear H
              have H := S.hset 2 1 (.slice pc lc Kc) rfl rfl (by intro q n e; cases e)
              replace S := S.set 2 1 (.slice pc lc Kc) rfl
              replace nA := nA.hold H
              replace dA := dA.hold H
              replace nf := nf.hold H
              replace nc := nc.hold H
              replace HH := HH.trans H
              clear H
              refine hKK.out _ _ ⟨S.c 0 0 rfl rfl, S.c 0 1 rfl rfl, S.c 0 2 rfl rfl⟩ (fun hS => ?_)
              generalize ((w26.setCell ⟨w4.heap.size, 0, none⟩ (.bool (negB zc))).setCell ⟨w4.heap.size, 1, none⟩ (.slice pc lc Kc)) = w27 at S nA dA nf nc HH hS ⊢
              clear hKK KK
              try simp only [Act.put, List.setIfInBounds_toArray, List.set_cons_zero, List.set_cons_succ]
              refine wpAnyH_done (by kernel_rfl) ?_ _
              go_wp2_with fail
              go_meet
              case rel => exact ⟨w24.heap.size, w4.heap.size, pf, lf, Kf, pc, lc, Kc, rfl, rfl, Sv.of S [0, 1, 3, 2] rfl, nf, nc, HH⟩
            ·
              go_simp
              clear hS
              have H := S.hnew 25 [.bool false, .slice none 0 0]
              replace S := S.alloc 25 [.bool false, .slice none 0 0] (w23.heap.size)
              replace nA := nA.hold H
              replace dA := dA.hold H
              replace nf := nf.hold H
              replace HH := HH.trans H
              clear H
              refine hKK.out _ _ ⟨S.c 0 0 rfl rfl, S.c 0 1 rfl rfl, S.c 0 2 rfl rfl⟩ (fun hS => ?_)
              generalize (w23.alloc (.cells #[.bool false, .slice none 0 0] 25)) = w28 at S nA dA nf HH hS ⊢
              clear hKK KK
              try simp only [Act.put, List.setIfInBounds_toArray, List.set_cons_zero, List.set_cons_succ]
              refine wpAnyH_ready (rs := [3]) (by kernel_rfl) (by simp) (AllReadyH.cons ((List.getElem?_toArray ..).trans rfl) (fun KK hKK => ?_) AllReadyH.nil)
              go_simp
              clear hS
              refine (S.call (rceil_any ⟨bA, pA, lA, KA, qA, jA, JA, rfl, hA, nA, dA⟩ (rb_max RA.out (by decide)) zc HC.out.1)).mono ?_
              clear S
              rintro e w29 ⟨⟨_, rfl, pc, lc, Kc, rfl, nc⟩, S, H⟩
              replace nA := nA.hold H
              replace dA := dA.hold H
              replace nf := nf.hold H
              replace HH := HH.trans H
              clear H
              go_wp2_with fail
              refine hKK.out _ _ ⟨S.c 0 0 rfl rfl, S.c 0 1 rfl rfl, S.c 0 2 rfl rfl⟩ (fun hS => ?_)
              clear hKK KK
              try simp only [Act.put, List.setIfInBounds_toArray, List.set_cons_zero, List.set_cons_succ]
              refine wpAnyH_ready (rs := [6]) (by kernel_rfl) (by simp) (AllReadyH.cons ((List.getElem?_toArray ..).trans rfl) (fun KK hKK => ?_) AllReadyH.nil)
              have c0 := S.c 3 0 rfl rfl
              have f0 := S.f 3 0 rfl
              have c1 := S.c 3 1 rfl rfl
              have f1 := S.f 3 1 rfl
              go_simp
              clear hS c0 f0 c1 f1
              have H := S.hset 3 0 (.bool (negB zf)) rfl rfl (by intro q n e; cases e)
              replace S := S.set 3 0 (.bool (negB zf)) rfl
              replace nA := nA.hold H
              replace dA := dA.hold H
              replace nf := nf.hold H
              replace nc := nc.hold H
              replace HH := HH.trans H
              clear H
              have H := S.hset 3 1 (.slice pf lf Kf) rfl rfl (by intro q n e; cases e)
              replace S := S.set 3 1 (.slice pf lf Kf) rfl
              replace nA := nA.hold H
              replace dA := dA.hold H
              replace nf := nf.hold H
              replace nc := nc.hold H
              replace HH := HH.trans H
              clear H
              refine hKK.out _ _ ⟨S.c 0 0 rfl rfl, S.c 0 1 rfl rfl, S.c 0 2 rfl rfl⟩ (fun hS => ?_)
              generalize ((w29.setCell ⟨w23.heap.size, 0, none⟩ (.bool (negB zf))).setCell ⟨w23.heap.size, 1, none⟩ (.slice pf lf Kf)) = w30 at S nA dA nf nc HH hS ⊢
              clear hKK KK
              try simp only [Act.put, List.setIfInBounds_toArray, List.set_cons_zero, List.set_cons_succ]
              refine wpAnyH_ready (rs := [7]) (by kernel_rfl) (by simp) (AllReadyH.cons ((List.getElem?_toArray ..).trans rfl) (fun KK hKK => ?_) AllReadyH.nil)
              have c0 := S.c 2 0 rfl rfl
              have f0 := S.f 2 0 rfl
              have c1 := S.c 2 1 rfl rfl
              have f1 := S.f 2 1 rfl
              go_simp
              clear hS c0 f0 c1 f1
              have H := S.hset 2 0 (.bool (negB zc)) rfl rfl (by intro q n e; cases e)
              replace S := S.set 2 0 (.bool (negB zc)) rfl
              replace nA := nA.hold H
              replace dA := dA.hold H
              replace nf := nf.hold H
              replace nc := nc.hold H
              replace HH := HH.trans H
              clear H
              have H := S.hset 2 1 (.slice pc lc Kc) rfl rfl (by intro q n e; cases e)
              replace S := S.set 2 1 (.slice pc lc Kc) rfl
              replace nA := nA.hold H
              replace dA := dA.hold H
              replace nf := nf.hold H
              replace nc := nc.hold H
              replace HH := HH.trans H
              clear H
              refine hKK.out _ _ ⟨S.c 0 0 rfl rfl, S.c 0 1 rfl rfl, S.c 0 2 rfl rfl⟩ (fun hS => ?_)
              generalize ((w30.setCell ⟨w4.heap.size, 0, none⟩ (.bool (negB zc))).setCell ⟨w4.heap.size, 1, none⟩ (.slice pc lc Kc)) = w31 at S nA dA nf nc HH hS ⊢
              clear hKK KK
              try simp only [Act.put, List.setIfInBounds_toArray, List.set_cons_zero, List.set_cons_succ]
              refine wpAnyH_done (by kernel_rfl) ?_ _
              go_wp2_with fail
              go_meet
              case rel => exact ⟨w23.heap.size, w4.heap.size, pf, lf, Kf, pc, lc, Kc, rfl, rfl, Sv.of S [0, 1, 3, 2] rfl, nf, nc, HH⟩
        ·
          go_simp
          clear hS
          have H := S.hnew 25 [.bool false, .slice none 0 0]
          replace S := S.alloc 25 [.bool false, .slice none 0 0] (w3.heap.size)
          replace nA := nA.hold H
          replace dA := dA.hold H
          replace HH := HH.trans H
          clear H
          refine hKK.out _ _ ⟨S.c 0 0 rfl rfl, S.c 0 1 rfl rfl, S.c 0 2 rfl rfl⟩ (fun hS => ?_)
          generalize (w3.alloc (.cells #[.bool false, .slice none 0 0] 25)) = w32 at S nA dA HH hS ⊢
          clear hKK KK
          try simp only [Act.put, List.setIfInBounds_toArray, List.set_cons_zero, List.set_cons_succ]
          refine wpAnyH_ready (rs := [1, 5]) (by kernel_rfl) (by simp) (AllReadyH.cons ((List.getElem?_toArray ..).trans rfl) (fun KK hKK => ?_) (AllReadyH.cons ((List.getElem?_toArray ..).trans rfl) (fun KK hKK => ?_) AllReadyH.nil))
          ·
            go_simp
            clear hS
            refine (S.call (rfloor_any ⟨bA, pA, lA, KA, qA, jA, JA, rfl, hA, nA, dA⟩ (rb_max RA.out (by decide)) zf HF.out.1)).mono ?_
            clear S
            rintro e w33 ⟨⟨_, rfl, pf, lf, Kf, rfl, nf⟩, S, H⟩
            replace nA := nA.hold H
            replace dA := dA.hold H
            replace HH := HH.trans H
            clear H
            go_wp2_with fail
            refine hKK.out _ _ ⟨S.c 0 0 rfl rfl, S.c 0 1 rfl rfl, S.c 0 2 rfl rfl⟩ (fun hS => ?_)
            clear hKK KK
            try simp only [Act.put, List.setIfInBounds_toArray, List.set_cons_zero, List.set_cons_succ]
            refine wpAnyH_ready (rs := [3, 5]) (by kernel_rfl) (by simp) (AllReadyH.cons ((List.getElem?_toArray ..).trans rfl) (fun KK hKK => ?_) (AllReadyH.cons ((List.getElem?_toArray ..).trans rfl) (fun KK hKK => ?_) AllReadyH.nil))
            ·
              go_simp
              clear hS
              refine (S.call (rceil_any ⟨bA, pA, lA, KA, qA, jA, JA, rfl, hA, nA, dA⟩ (rb_max RA.out (by decide)) zc HC.out.1)).mono ?_
              clear S
              rintro e w34 ⟨⟨_, rfl, pc, lc, Kc, rfl, nc⟩, S, H⟩
              replace nA := nA.hold H
              replace dA := dA.hold H
              replace nf := nf.hold H
              replace HH := HH.trans H
              clear H
              go_wp2_with fail
              refine hKK.out _ _ ⟨S.c 0 0 rfl rfl, S.c 0 1 rfl rfl, S.c 0 2 rfl rfl⟩ (fun hS => ?_)
              clear hKK KK
              try simp only [Act.put, List.setIfInBounds_toArray, List.set_cons_zero, List.set_cons_succ]
              refine wpAnyH_ready (rs := [5]) (by kernel_rfl) (by simp) (AllReadyH.cons ((List.getElem?_toArray ..).trans rfl) (fun KK hKK => ?_) AllReadyH.nil)
              go_simp
              clear hS
              have H := S.hnew 25 [.bool false, .slice none 0 0]
              replace S := S.alloc 25 [.bool false, .slice none 0 0] (w34.heap.size)
              replace nA := nA.hold H
              replace dA := dA.hold H
              replace nf := nf.hold H
              replace nc := nc.hold H
              replace HH := HH.trans H
              clear H
              refine hKK.out _ _ ⟨S.c 0 0 rfl rfl, S.c 0 1 rfl rfl, S.c 0 2 rfl rfl⟩ (fun hS => ?_)
              generalize (w34.alloc (.cells #[.bool false, .slice none 0 0] 25)) = w35 at S nA dA nf nc HH hS ⊢
              clear hKK KK
              try simp only [Act.put, List.setIfInBounds_toArray, List.set_cons_zero, List.set_cons_succ]
              refine wpAnyH_ready (rs := [6]) (by kernel_rfl) (by simp) (AllReadyH.cons ((List.getElem?_toArray ..).trans rfl) (fun KK hKK => ?_) AllReadyH.nil)
              have c0 := S.c 2 0 rfl rfl
              have f0 := S.f 2 0 rfl
              have c1 := S.c 2 1 rfl rfl
              have f1 := S.f 2 1 rfl
              go_simp
              clear hS c0 f0 c1 f1
              have H := S.hset 2 0 (.bool (negB zf)) rfl rfl (by intro q n e; cases e)
              replace S := S.set 2 0 (.bool (negB zf)) rfl
              replace nA := nA.hold H
              replace dA := dA.hold H
              replace nf := nf.hold H
              replace nc := nc.hold H
              replace HH := HH.trans H
              clear H
              have H := S.hset 2 1 (.slice pf lf Kf) rfl rfl (by intro q n e; cases e)
              replace S := S.set 2 1 (.slice pf lf Kf) rfl
              replace nA := nA.hold H
              replace dA := dA.hold H
              replace nf := nf.hold H
              replace nc := nc.hold H
              replace HH := HH.trans H
              clear H
              refine hKK.out _ _ ⟨S.c 0 0 rfl rfl, S.c 0 1 rfl rfl, S.c 0 2 rfl rfl⟩ (fun hS => ?_)
              generalize ((w35.setCell ⟨w3.heap.size, 0, none⟩ (.bool (negB zf))).setCell ⟨w3.heap.size, 1, none⟩ (.slice pf lf Kf)) = w36 at S nA dA nf nc HH hS ⊢
              clear hKK KK
              try simp only [Act.put, List.setIfInBounds_toArray, List.set_cons_zero, List.set_cons_succ]
              refine wpAnyH_ready (rs := [7]) (by kernel_rfl) (by simp) (AllReadyH.cons ((List.getElem?_toArray ..).trans rfl) (fun KK hKK => ?_) AllReadyH.nil)
              have c0 := S.c 3 0 rfl rfl
              have f0 := S.f 3 0 rfl
              have c1 := S.c 3 1 rfl rfl
              have f1 := S.f 3 1 rfl
              go_simp
              clear hS c0 f0 c1 f1
              have H := S.hset 3 0 (.bool (negB zc)) rfl rfl (by intro q n e; cases e)
              replace S := S.set 3 0 (.bool (negB zc)) rfl
              replace nA := nA.hold H
              replace dA := dA.hold H
              replace nf := nf.hold H
              replace nc := nc.hold H
              replace HH := HH.trans H
              clear H
              have H := S.hset 3 1 (.slice pc lc Kc) rfl rfl (by intro q n e; cases e)
              replace S := S.set 3 1 (.slice pc lc Kc) rfl
              replace nA := nA.hold H
              replace dA := dA.hold H
              replace nf := nf.hold H
              replace nc := nc.hold H
              replace HH := HH.trans H
              clear H
              refine hKK.out _ _ ⟨S.c 0 0 rfl rfl, S.c 0 1 rfl rfl, S.c 0 2 rfl rfl⟩ (fun hS => ?_)
              generalize ((w36.setCell ⟨w34.heap.size, 0, none⟩ (.bool (negB zc))).setCell ⟨w34.heap.size, 1, none⟩ (.slice pc lc Kc)) = w37 at S nA dA nf nc HH hS ⊢
              clear hKK KK
              try simp only [Act.put, List.setIfInBounds_toArray, List.set_cons_zero, List.set_cons_succ]
              refine wpAnyH_done (by kernel_rfl) ?_ _
              go_wp2_with fail
              go_meet
              case rel => exact ⟨w3.heap.size, w34.heap.size, pf, lf, Kf, pc, lc, Kc, rfl, rfl, Sv.of S [0, 1, 2, 3] rfl, nf, nc, HH⟩
            ·
              go_simp
              clear hS
              have H := S.hnew 25 [.bool false, .slice none 0 0]
              replace S := S.alloc 25 [.bool false, .slice none 0 0] (w33.heap.size)
              replace nA := nA.hold H
              replace dA := dA.hold H
              replace nf := nf.hold H
              replace HH := HH.trans H
              clear H
              refine hKK.out _ _ ⟨S.c 0 0 rfl rfl, S.c 0 1 rfl rfl, S.c 0 2 rfl rfl⟩ (fun hS => ?_)
              generalize (w33.alloc (.cells #[.bool false, .slice none 0 0] 25)) = w38 at S nA dA nf HH hS ⊢
              clear hKK KK
              try simp only [Act.put, List.setIfInBounds_toArray, List.set_cons_zero, List.set_cons_succ]
              refine wpAnyH_ready (rs := [3]) (by kernel_rfl) (by simp) (AllReadyH.cons ((List.getElem?_toArray ..).trans rfl) (fun KK hKK => ?_) AllReadyH.nil)
              go_simp
              clear hS
              refine (S.call (rceil_any ⟨bA, pA, lA, KA, qA, jA, JA, rfl, hA, nA, dA⟩ (rb_max RA.out (by decide)) zc HC.out.1)).mono ?_
              clear S
              rintro e w39 ⟨⟨_, rfl, pc, lc, Kc, rfl, nc⟩, S, H⟩
              replace nA := nA.hold H
              replace dA := dA.hold H
              replace nf := nf.hold H
              replace HH := HH.trans H
              clear H
              go_wp2_with fail
              refine hKK.out _ _ ⟨S.c 0 0 rfl rfl, S.c 0 1 rfl rfl, S.c 0 2 rfl rfl⟩ (fun hS => ?_)
              clear hKK KK
              try simp only [Act.put, List.setIfInBounds_toArray, List.set_cons_zero, List.set_cons_succ]
              refine wpAnyH_ready (rs := [6]) (by kernel_rfl) (by simp) (AllReadyH.cons ((List.getElem?_toArray ..).trans rfl) (fun KK hKK => ?_) AllReadyH.nil)
              have c0 := S.c 2 0 rfl rfl
              have f0 := S.f 2 0 rfl
              have c1 := S.c 2 1 rfl rfl
              have f1 := S.f 2 1 rfl
              go_simp
              clear hS c0 f0 c1 f1
              have H := S.hset 2 0 (.bool (negB zf)) rfl rfl (by intro q n e; cases e)
              replace S := S.set 2 0 (.bool (negB zf)) rfl
              replace nA := nA.hold H
              replace dA := dA.hold H
              replace nf := nf.hold H
              replace nc := nc.hold H
              replace HH := HH.trans H
              clear H
              have H := S.hset 2 1 (.slice pf lf Kf) rfl rfl (by intro q n e; cases e)
              replace S := S.set 2 1 (.slice pf lf Kf) rfl
              replace nA := nA.hold H
              replace dA := dA.hold H
              replace nf := nf.hold H
              replace nc := nc.hold H
              replace HH := HH.trans H
              clear H
              refine hKK.out _ _ ⟨S.c 0 0 rfl rfl, S.c 0 1 rfl rfl, S.c 0 2 rfl rfl⟩ (fun hS => ?_)
              generalize ((w39.setCell ⟨w3.heap.size, 0, none⟩ (.bool (negB zf))).setCell ⟨w3.heap.size, 1, none⟩ (.slice pf lf Kf)) = w40 at S nA dA nf nc HH hS ⊢
              clear hKK KK
              try simp only [Act.put, List.setIfInBounds_toArray, List.set_cons_zero, List.set_cons_succ]
              refine wpAnyH_ready (rs := [7]) (by kernel_rfl) (by simp) (AllReadyH.cons ((List.getElem?_toArray ..).trans rfl) (fun KK hKK => ?_) AllReadyH.nil)
              have c0 := S.c 3 0 rfl rfl
              have f0 := S.f 3 0 rfl
              have c1 := S.c 3 1 rfl rfl
              have f1 := S.f 3 1 rfl
              go_simp
              clear hS c0 f0 c1 f1
              have H := S.hset 3 0 (.bool (negB zc)) rfl rfl (by intro q n e; cases e)
              replace S := S.set 3 0 (.bool (negB zc)) rfl
              replace nA := nA.hold H
              replace dA := dA.hold H
              replace nf := nf.hold H
              replace nc := nc.hold H
              replace HH := HH.trans H
              clear H
              have H := S.hset 3 1 (.slice pc lc Kc) rfl rfl (by intro q n e; cases e)
              replace S := S.set 3 1 (.slice pc lc Kc) rfl
              replace nA := nA.hold H
              replace dA := dA.hold H
              replace nf := nf.hold H
              replace nc := nc.hold H
              replace HH := HH.trans H
              clear H
              refine hKK.out _ _ ⟨S.c 0 0 rfl rfl, S.c 0 1 rfl rfl, S.c 0 2 rfl rfl⟩ (fun hS => ?_)
              generalize ((w40.setCell ⟨w33.heap.size, 0, none⟩ (.bool (negB zc))).setCell ⟨w33.heap.size, 1, none⟩ (.slice pc lc Kc)) = w41 at S nA dA nf nc HH hS ⊢
              clear hKK KK
              try simp only [Act.put, List.setIfInBounds_toArray, List.set_cons_zero, List.set_cons_succ]
              refine wpAnyH_done (by kernel_rfl) ?_ _
              go_wp2_with fail
              go_meet
              case rel => exact ⟨w3.heap.size, w33.heap.size, pf, lf, Kf, pc, lc, Kc, rfl, rfl, Sv.of S [0, 1, 2, 3] rfl, nf, nc, HH⟩
          ·
            go_simp
            clear hS
            have H := S.hnew 25 [.bool false, .slice none 0 0]
            replace S := S.alloc 25 [.bool false, .slice none 0 0] (w32.heap.size)
            replace nA := nA.hold H
            replace dA := dA.hold H
            replace HH := HH.trans H
            clear H
            refine hKK.out _ _ ⟨S.c 0 0 rfl rfl, S.c 0 1 rfl rfl, S.c 0 2 rfl rfl⟩ (fun hS => ?_)
            generalize (w32.alloc (.cells #[.bool false, .slice none 0 0] 25)) = w42 at S nA dA HH hS ⊢
            clear hKK KK
            try simp only [Act.put, List.setIfInBounds_toArray, List.set_cons_zero, List.set_cons_succ]
            refine wpAnyH_ready (rs := [1]) (by kernel_rfl) (by simp) (AllReadyH.cons ((List.getElem?_toArray ..).trans rfl) (fun KK hKK => ?_) AllReadyH.nil)
            go_simp
            clear hS
            refine (S.call (rfloor_any ⟨bA, pA, lA, KA, qA, jA, JA, rfl, hA, nA, dA⟩ (rb_max RA.out (by decide)) zf HF.out.1)).mono ?_
            clear S
            rintro e w43 ⟨⟨_, rfl, pf, lf, Kf, rfl, nf⟩, S, H⟩
            replace nA := nA.hold H
            replace dA := dA.hold H
            replace HH := HH.trans H
            clear H
            go_wp2_with fail
            refine hKK.out _ _ ⟨S.c 0 0 rfl rfl, S.c 0 1 rfl rfl, S.c 0 2 rfl rfl⟩ (fun hS => ?_)
            clear hKK KK
            try simp only [Act.put, List.setIfInBounds_toArray, List.set_cons_zero, List.set_cons_succ]
            refine wpAnyH_ready (rs := [3]) (by kernel_rfl) (by simp) (AllReadyH.cons ((List.getElem?_toArray ..).trans rfl) (fun KK hKK => ?_) AllReadyH.nil)
            go_simp
            clear hS
            refine (S.call (rceil_any ⟨bA, pA, lA, KA, qA, jA, JA, rfl, hA, nA, dA⟩ (rb_max RA.out (by decide)) zc HC.out.1)).mono ?_
            clear S
            rintro e w44 ⟨⟨_, rfl, pc, lc, Kc, rfl, nc⟩, S, H⟩
            replace nA := nA.hold H
            replace dA := dA.hold H
            replace nf := nf.hold H
            replace HH := HH.trans H
            clear H
            go_wp2_with fail
            refine hKK.out _ _ ⟨S.c 0 0 rfl rfl, S.c 0 1 rfl rfl, S.c 0 2 rfl rfl⟩ (fun hS => ?_)
            clear hKK KK
            try simp only [Act.put, List.setIfInBounds_toArray, List.set_cons_zero, List.set_cons_succ]
            refine wpAnyH_ready (rs := [6]) (by kernel_rfl) (by simp) (AllReadyH.cons ((List.getElem?_toArray ..).trans rfl) (fun KK hKK => ?_) AllReadyH.nil)
            have c0 := S.c 2 0 rfl rfl
            have f0 := S.f 2 0 rfl
            have c1 := S.c 2 1 rfl rfl
            have f1 := S.f 2 1 rfl
            go_simp
            clear hS c0 f0 c1 f1
            have H := S.hset 2 0 (.bool (negB zf)) rfl rfl (by intro q n e; cases e)
            replace S := S.set 2 0 (.bool (negB zf)) rfl
            replace nA := nA.hold H
            replace dA := dA.hold H
            replace nf := nf.hold H
            replace nc := nc.hold H
            replace HH := HH.trans H
            clear H
            have H := S.hset 2 1 (.slice pf lf Kf) rfl rfl (by intro q n e; cases e)
            replace S := S.set 2 1 (.slice pf lf Kf) rfl
            replace nA := nA.hold H
            replace dA := dA.hold H
            replace nf := nf.hold H
            replace nc := nc.hold H
            replace HH := HH.trans H
            clear H
            refine hKK.out _ _ ⟨S.c 0 0 rfl rfl, S.c 0 1 rfl rfl, S.c 0 2 rfl rfl⟩ (fun hS => ?_)
            generalize ((w44.setCell ⟨w3.heap.size, 0, none⟩ (.bool (negB zf))).setCell ⟨w3.heap.size, 1, none⟩ (.slice pf lf Kf)) = w45 at S nA dA nf nc HH hS ⊢
            clear hKK KK
            try simp only [Act.put, List.setIfInBounds_toArray, List.set_cons_zero, List.set_cons_succ]
            refine wpAnyH_ready (rs := [7]) (by kernel_rfl) (by simp) (AllReadyH.cons ((List.getElem?_toArray ..).trans rfl) (fun KK hKK => ?_) AllReadyH.nil)
            have c0 := S.c 3 0 rfl rfl
            have f0 := S.f 3 0 rfl
            have c1 := S.c 3 1 rfl rfl
            have f1 := S.f 3 1 rfl
            go_simp
            clear hS c0 f0 c1 f1
            have H := S.hset 3 0 (.bool (negB zc)) rfl rfl (by intro q n e; cases e)
            replace S := S.set 3 0 (.bool (negB zc)) rfl
            replace nA := nA.hold H
            replace dA := dA.hold H
            replace nf := nf.hold H
            replace nc := nc.hold H
            replace HH := HH.trans H
            clear H
            have H := S.hset 3 1 (.slice pc lc Kc) rfl rfl (by intro q n e; cases e)
            replace S := S.set 3 1 (.slice pc lc Kc) rfl
            replace nA := nA.hold H
            replace dA := dA.hold H
            replace nf := nf.hold H
            replace nc := nc.hold H
            replace HH := HH.trans H
            clear H
            refine hKK.out _ _ ⟨S.c 0 0 rfl rfl, S.c 0 1 rfl rfl, S.c 0 2 rfl rfl⟩ (fun hS => ?_)
            generalize ((w45.setCell ⟨w32.heap.size, 0, none⟩ (.bool (negB zc))).setCell ⟨w32.heap.size, 1, none⟩ (.slice pc lc Kc)) = w46 at S nA dA nf nc HH hS ⊢
            clear hKK KK
            try simp only [Act.put, List.setIfInBounds_toArray, List.set_cons_zero, List.set_cons_succ]
            refine wpAnyH_done (by kernel_rfl) ?_ _
            go_wp2_with fail
            go_meet
            case rel => exact ⟨w3.heap.size, w32.heap.size, pf, lf, Kf, pc, lc, Kc, rfl, rfl, Sv.of S [0, 1, 2, 3] rfl, nf, nc, HH⟩
        ·
          go_simp
          clear hS
          have H := S.hnew 25 [.bool false, .slice none 0 0]
          replace S := S.alloc 25 [.bool false, .slice none 0 0] (w3.heap.size)
          replace nA := nA.hold H
          replace dA := dA.hold H
          replace HH := HH.trans H
          clear H
          refine hKK.out _ _ ⟨S.c 0 0 rfl rfl, S.c 0 1 rfl rfl, S.c 0 2 rfl rfl⟩ (fun hS => ?_)
          generalize (w3.alloc (.cells #[.bool false, .slice none 0 0] 25)) = w47 at S nA dA HH hS ⊢
          clear hKK KK
          try simp only [Act.put, List.setIfInBounds_toArray, List.set_cons_zero, List.set_cons_succ]
          refine wpAnyH_ready (rs := [1, 4]) (by kernel_rfl) (by simp) (AllReadyH.cons ((List.getElem?_toArray ..).trans rfl) (fun KK hKK => ?_) (AllReadyH.cons ((List.getElem?_toArray ..).trans rfl) (fun KK hKK => ?_) AllReadyH.nil))
          ·
            go_simp
            clear hS
            refine (S.call (rfloor_any ⟨bA, pA, lA, KA, qA, jA, JA, rfl, hA, nA, dA⟩ (rb_max RA.out (by decide)) zf HF.out.1)).mono ?_
            clear S
            rintro e w48 ⟨⟨_, rfl, pf, lf, Kf, rfl, nf⟩, S, H⟩
            replace nA := nA.hold H
            replace dA := dA.hold H
            replace HH := HH.trans H
            clear H
            go_wp2_with fail
            refine hKK.out _ _ ⟨S.c 0 0 rfl rfl, S.c 0 1 rfl rfl, S.c 0 2 rfl rfl⟩ (fun hS => ?_)
            clear hKK KK
            try simp only [Act.put, List.setIfInBounds_toArray, List.set_cons_zero, List.set_cons_succ]
            refine wpAnyH_ready (rs := [3, 4]) (by kernel_rfl) (by simp) (AllReadyH.cons ((List.getElem?_toArray ..).trans rfl) (fun KK hKK => ?_) (AllReadyH.cons ((List.getElem?_toArray ..).trans rfl) (fun KK hKK => ?_) AllReadyH.nil))
            ·
              go_simp
              clear hS
              refine (S.call (rceil_any ⟨bA, pA, lA, KA, qA, jA, JA, rfl, hA, nA, dA⟩ (rb_max RA.out (by decide)) zc HC.out.1)).mono ?_
              clear S
              rintro e w49 ⟨⟨_, rfl, pc, lc, Kc, rfl, nc⟩, S, H⟩
              replace nA := nA.hold H
              replace dA := dA.hold H
              replace nf := nf.hold H
              replace HH := HH.trans H
              clear H
              go_wp2_with fail
              refine hKK.out _ _ ⟨S.c 0 0 rfl rfl, S.c 0 1 rfl rfl, S.c 0 2 rfl rfl⟩ (fun hS => ?_)
              clear hKK KK
              try simp only [Act.put, List.setIfInBounds_toArray, List.set_cons_zero, List.set_cons_succ]
              refine wpAnyH_ready (rs := [4]) (by kernel_rfl) (by simp) (AllReadyH.cons ((List.getElem?_toArray ..).trans rfl) (fun KK hKK => ?_) AllReadyH.nil)
              go_simp
              clear hS
              have H := S.hnew 25 [.bool false, .slice none 0 0]
              replace S := S.alloc 25 [.bool false, .slice none 0 0] (w49.heap.size)
              replace nA := nA.hold H
              replace dA := dA.hold H
              replace nf := nf.hold H
              replace nc := nc.hold H
              replace HH := HH.trans H
              clear H
              refine hKK.out _ _ ⟨S.c 0 0 rfl rfl, S.c 0 1 rfl rfl, S.c 0 2 rfl rfl⟩ (fun hS => ?_)
              generalize (w49.alloc (.cells #[.bool false, .slice none 0 0] 25)) = w50 at S nA dA nf nc HH hS ⊢
              clear hKK KK
              try simp only [Act.put, List.setIfInBounds_toArray, List.set_cons_zero, List.set_cons_succ]
              refine wpAnyH_ready (rs := [6]) (by kernel_rfl) (by simp) (AllReadyH.cons ((List.getElem?_toArray ..).trans rfl) (fun KK hKK => ?_) AllReadyH.nil)
              have c0 := S.c 3 0 rfl rfl
              have f0 := S.f 3 0 rfl
              have c1 := S.c 3 1 rfl rfl
              have f1 := S.f 3 1 rfl
              go_simp
              clear hS c0 f0 c1 f1
              have H := S.hset 3 0 (.bool (negB zf)) rfl rfl (by intro q n e; cases e)
              replace S := S.set 3 0 (.bool (negB zf)) rfl
              replace nA := nA.hold H
              replace dA := dA.hold H
              replace nf := nf.hold H
              replace nc := nc.hold H
              replace HH := HH.trans H
              clear H
              have H := S.hset 3 1 (.slice pf lf Kf) rfl rfl (by intro q n e; cases e)
              replace S := S.set 3 1 (.slice pf lf Kf) rfl
              replace nA := nA.hold H
              replace dA := dA.hold H
              replace nf := nf.hold H
              replace nc := nc.hold H
              replace HH := HH.trans H
              clear H
              refine hKK.out _ _ ⟨S.c 0 0 rfl rfl, S.c 0 1 rfl rfl, S.c 0 2 rfl rfl⟩ (fun hS => ?_)
              generalize ((w50.setCell ⟨w49.heap.size, 0, none⟩ (.bool (negB zf))).setCell ⟨w49.heap.size, 1, none⟩ (.slice pf lf Kf)) = w51 at S nA dA nf nc HH hS ⊢
              clear hKK KK
              try simp only [Act.put, List.setIfInBounds_toArray, List.set_cons_zero, List.set_cons_succ]
              refine wpAnyH_ready (rs := [7]) (by kernel_rfl) (by simp) (AllReadyH.cons ((List.getElem?_toArray ..).trans rfl) (fun KK hKK => ?_) AllReadyH.nil)
              have c0 := S.c 2 0 rfl rfl
              have f0 := S.f 2 0 rfl
              have c1 := S.c 2 1 rfl rfl
              have f1 := S.f 2 1 rfl
              go_simp
              clear hS c0 f0 c1 f1
              have H := S.hset 2 0 (.bool (negB zc)) rfl rfl (by intro q n e; cases e)
              replace S := S.set 2 0 (.bool (negB zc)) rfl
              replace nA := nA.hold H
              replace dA := dA.hold H
              replace nf := nf.hold H
              replace nc := nc.hold H
              replace HH := HH.trans H
              clear H
              have H := S.hset 2 1 (.slice pc lc Kc) rfl rfl (by intro q n e; cases e)
              replace S := S.set 2 1 (.slice pc lc Kc) rfl
              replace nA := nA.hold H
              replace dA := dA.hold H
              replace nf := nf.hold H
              replace nc := nc.hold H
              replace HH := HH.trans H
              clear H
              refine hKK.out _ _ ⟨S.c 0 0 rfl rfl, S.c 0 1 rfl rfl, S.c 0 2 rfl rfl⟩ (fun hS => ?_)
              generalize ((w51.setCell ⟨w3.heap.size, 0, none⟩ (.bool (negB zc))).setCell ⟨w3.heap.size, 1, none⟩ (.slice pc lc Kc)) = w52 at S nA dA nf nc HH hS ⊢
              clear hKK KK
              try simp only [Act.put, List.setIfInBounds_toArray, List.set_cons_zero, List.set_cons_succ]
              refine wpAnyH_done (by kernel_rfl) ?_ _
              go_wp2_with fail
              go_meet
              case rel => exact ⟨w49.heap.size, w3.heap.size, pf, lf, Kf, pc, lc, Kc, rfl, rfl, Sv.of S [0, 1, 3, 2] rfl, nf, nc, HH⟩
            ·
              go_simp
              clear hS
              have H := S.hnew 25 [.bool false, .slice none 0 0]
              replace S := S.alloc 25 [.bool false, .slice none 0 0] (w48.heap.size)
              replace nA := nA.hold H
              replace dA := dA.hold H
              replace nf := nf.hold H
              replace HH := HH.trans H
              clear H
              refine hKK.out _ _ ⟨S.c 0 0 rfl rfl, S.c 0 1 rfl rfl, S.c 0 2 rfl rfl⟩ (fun hS => ?_)
              generalize (w48.alloc (.cells #[.bool false, .slice none 0 0] 25)) = w53 at S nA dA nf HH hS ⊢
              clear hKK KK
              try simp only [Act.put, List.setIfInBounds_toArray, List.set_cons_zero, List.set_cons_succ]
              refine wpAnyH_ready (rs := [3]) (by kernel_rfl) (by simp) (AllReadyH.cons ((List.getElem?_toArray ..).trans rfl) (fun KK hKK => ?_) AllReadyH.nil)
              go_simp
              clear hS
              refine (S.call (rceil_any ⟨bA, pA, lA, KA, qA, jA, JA, rfl, hA, nA, dA⟩ (rb_max RA.out (by decide)) zc HC.out.1)).mono ?_
              clear S
              rintro e w54 ⟨⟨_, rfl, pc, lc, Kc, rfl, nc⟩, S, H⟩
              replace nA := nA.hold H
              replace dA := dA.hold H
              replace nf := nf.hold H
              replace HH := HH.trans H
              clear H
              go_wp2_with fail
              refine hKK.out _ _ ⟨S.c 0 0 rfl rfl, S.c 0 1 rfl rfl, S.c 0 2 rfl rfl⟩ (fun hS => ?_)
              clear hKK KK
              try simp only [Act.put, List.setIfInBounds_toArray, List.set_cons_zero, List.set_cons_succ]
              refine wpAnyH_ready (rs := [6]) (by kernel_rfl) (by simp) (AllReadyH.cons ((List.getElem?_toArray ..).trans rfl) (fun KK hKK => ?_) AllReadyH.nil)
              have c0 := S.c 3 0 rfl rfl
              have f0 := S.f 3 0 rfl
              have c1 := S.c 3 1 rfl rfl
              have f1 := S.f 3 1 rfl
              go_simp
              clear hS c0 f0 c1 f1
              have H := S.hset 3 0 (.bool (negB zf)) rfl rfl (by intro q n e; cases e)
              replace S := S.set 3 0 (.bool (negB zf)) rfl
              replace nA := nA.hold H
              replace dA := dA.hold H
              replace nf := nf.hold H
              replace nc := nc.hold H
              replace HH := HH.trans H
              clear H
              have H := S.hset 3 1 (.slice pf lf Kf) rfl rfl (by intro q n e; cases e)
              replace S := S.set 3 1 (.slice pf lf Kf) rfl
              replace nA := nA.hold H
              replace dA := dA.hold H
              replace nf := nf.hold H
              replace nc := nc.hold H
              replace HH := HH.trans H
              clear H
              refine hKK.out _ _ ⟨S.c 0 0 rfl rfl, S.c 0 1 rfl rfl, S.c 0 2 rfl rfl⟩ (fun hS => ?_)
              generalize ((w54.setCell ⟨w48.heap.size, 0, none⟩ (.bool (negB zf))).setCell ⟨w48.heap.size, 1, none⟩ (.slice pf lf Kf)) = w55 at S nA dA nf nc HH hS ⊢
              clear hKK KK
              try simp only [Act.put, List.setIfInBounds_toArray, List.set_cons_zero, List.set_cons_succ]
              refine wpAnyH_ready (rs := [7]) (by kernel_rfl) (by simp) (AllReadyH.cons ((List.getElem?_toArray ..).trans rfl) (fun KK hKK => ?_) AllReadyH.nil)
              have c0 := S.c 2 0 rfl rfl
              have f0 := S.f 2 0 rfl
              have c1 := S.c 2 1 rfl rfl
              have f1 := S.f 2 1 rfl
              go_simp
              clear hS c0 f0 c1 f1
              have H := S.hset 2 0 (.bool (negB zc)) rfl rfl (by intro q n e; cases e)
              replace S := S.set 2 0 (.bool (negB zc)) rfl
              replace nA := nA.hold H
              replace dA := dA.hold H
              replace nf := nf.hold H
              replace nc := nc.hold H
              replace HH := HH.trans H
              clear H
              have H := S.hset 2 1 (.slice pc lc Kc) rfl rfl (by intro q n e; cases e)
              replace S := S.set 2 1 (.slice pc lc Kc) rfl
              replace nA := nA.hold H
              replace dA := dA.hold H
              replace nf := nf.hold H
              replace nc := nc.hold H
              replace HH := HH.trans H
              clear H
              refine hKK.out _ _ ⟨S.c 0 0 rfl rfl, S.c 0 1 rfl rfl, S.c 0 2 rfl rfl⟩ (fun hS => ?_)
              generalize ((w55.setCell ⟨w3.heap.size, 0, none⟩ (.bool (negB zc))).setCell ⟨w3.heap.size, 1, none⟩ (.slice pc lc Kc)) = w56 at S nA dA nf nc HH hS ⊢
              clear hKK KK
              try simp only [Act.put, List.setIfInBounds_toArray, List.set_cons_zero, List.set_cons_succ]
              refine wpAnyH_done (by kernel_rfl) ?_ _
              go_wp2_with fail
              go_meet
              case rel => exact ⟨w48.heap.size, w3.heap.size, pf, lf, Kf, pc, lc, Kc, rfl, rfl, Sv.of S [0, 1, 3, 2] rfl, nf, nc, HH⟩
          ·
            go_simp
            clear hS
            have H := S.hnew 25 [.bool false, .slice none 0 0]
            replace S := S.alloc 25 [.bool false, .slice none 0 0] (w47.heap.size)
            replace nA := nA.hold H
            replace dA := dA.hold H
            replace HH := HH.trans H
            clear H
            refine hKK.out _ _ ⟨S.c 0 0 rfl rfl, S.c 0 1 rfl rfl, S.c 0 2 rfl rfl⟩ (fun hS => ?_)
            generalize (w47.alloc (.cells #[.bool false, .slice none 0 0] 25)) = w57 at S nA dA HH hS ⊢
            clear hKK KK
            try simp only [Act.put, List.setIfInBounds_toArray, List.set_cons_zero, List.set_cons_succ]
            refine wpAnyH_ready (rs := [1]) (by kernel_rfl) (by simp) (AllReadyH.cons ((List.getElem?_toArray ..).trans rfl) (fun KK hKK => ?_) AllReadyH.nil)
            go_simp
            clear hS
            refine (S.call (rfloor_any ⟨bA, pA, lA, KA, qA, jA, JA, rfl, hA, nA, dA⟩ (rb_max RA.out (by decide)) zf HF.out.1)).mono ?_
            clear S
            rintro e w58 ⟨⟨_, rfl, pf, lf, Kf, rfl, nf⟩, S, H⟩
            replace nA := nA.hold H
            replace dA := dA.hold H
            replace HH := HH.trans H
            clear H
            go_wp2_with fail
            refine hKK.out _ _ ⟨S.c 0 0 rfl rfl, S.c 0 1 rfl rfl, S.c 0 2 rfl rfl⟩ (fun hS => ?_)
            clear hKK KK
            try simp only [Act.put, List.setIfInBounds_toArray, List.set_cons_zero, List.set_cons_succ]
            refine wpAnyH_ready (rs := [3]) (by kernel_rfl) (by simp) (AllReadyH.cons ((List.getElem?_toArray ..).trans rfl) (fun KK hKK => ?_) AllReadyH.nil)
            go_simp
            clear hS
            refine (S.call (rceil_any ⟨bA, pA, lA, KA, qA, jA, JA, rfl, hA, nA, dA⟩ (rb_max RA.out (by decide)) zc HC.out.1)).mono ?_
            clear S
            rintro e w59 ⟨⟨_, rfl, pc, lc, Kc, rfl, nc⟩, S, H⟩
            replace nA := nA.hold H
            replace dA := dA.hold H
            replace nf := nf.hold H
            replace HH := HH.trans H
            clear H
            go_wp2_with fail
            refine hKK.out _ _ ⟨S.c 0 0 rfl rfl, S.c 0 1 rfl rfl, S.c 0 2 rfl rfl⟩ (fun hS => ?_)
            clear hKK KK
            try simp only [Act.put, List.setIfInBounds_toArray, List.set_cons_zero, List.set_cons_succ]
            refine wpAnyH_ready (rs := [6]) (by kernel_rfl) (by simp) (AllReadyH.cons ((List.getElem?_toArray ..).trans rfl) (fun KK hKK => ?_) AllReadyH.nil)
            have c0 := S.c 3 0 rfl rfl
            have f0 := S.f 3 0 rfl
            have c1 := S.c 3 1 rfl rfl
            have f1 := S.f 3 1 rfl
            go_simp
            clear hS c0 f0 c1 f1
            have H := S.hset 3 0 (.bool (negB zf)) rfl rfl (by intro q n e; cases e)
            replace S := S.set 3 0 (.bool (negB zf)) rfl
            replace nA := nA.hold H
            replace dA := dA.hold H
            replace nf := nf.hold H
            replace nc := nc.hold H
            replace HH := HH.trans H
            clear H
            have H := S.hset 3 1 (.slice pf lf Kf) rfl rfl (by intro q n e; cases e)
            replace S := S.set 3 1 (.slice pf lf Kf) rfl
            replace nA := nA.hold H
            replace dA := dA.hold H
            replace nf := nf.hold H
            replace nc := nc.hold H
            replace HH := HH.trans H
            clear H
            refine hKK.out _ _ ⟨S.c 0 0 rfl rfl, S.c 0 1 rfl rfl, S.c 0 2 rfl rfl⟩ (fun hS => ?_)
            generalize ((w59.setCell ⟨w47.heap.size, 0, none⟩ (.bool (negB zf))).setCell ⟨w47.heap.size, 1, none⟩ (.slice pf lf Kf)) = w60 at S nA dA nf nc HH hS ⊢
            clear hKK KK
            try simp only [Act.put, List.setIfInBounds_toArray, List.set_cons_zero, List.set_cons_succ]
            refine wpAnyH_ready (rs := [7]) (by kernel_rfl) (by simp) (AllReadyH.cons ((List.getElem?_toArray ..).trans rfl) (fun KK hKK => ?_) AllReadyH.nil)
            have c0 := S.c 2 0 rfl rfl
            have f0 := S.f 2 0 rfl
            have c1 := S.c 2 1 rfl rfl
            have f1 := S.f 2 1 rfl
            go_simp
            clear hS c0 f0 c1 f1
            have H := S.hset 2 0 (.bool (negB zc)) rfl rfl (by intro q n e; cases e)
            replace S := S.set 2 0 (.bool (negB zc)) rfl
            replace nA := nA.hold H
            replace dA := dA.hold H
            replace nf := nf.hold H
            replace nc := nc.hold H
            replace HH := HH.trans H
            clear H
            have H := S.hset 2 1 (.slice pc lc Kc) rfl rfl (by intro q n e; cases e)
            replace S := S.set 2 1 (.slice pc lc Kc) rfl
            replace nA := nA.hold H
            replace dA := dA.hold H
            replace nf := nf.hold H
            replace nc := nc.hold H
            replace HH := HH.trans H
            clear H
            refine hKK.out _ _ ⟨S.c 0 0 rfl rfl, S.c 0 1 rfl rfl, S.c 0 2 rfl rfl⟩ (fun hS => ?_)
            generalize ((w60.setCell ⟨w3.heap.size, 0, none⟩ (.bool (negB zc))).setCell ⟨w3.heap.size, 1, none⟩ (.slice pc lc Kc)) = w61 at S nA dA nf nc HH hS ⊢
            clear hKK KK
            try simp only [Act.put, List.setIfInBounds_toArray, List.set_cons_zero, List.set_cons_succ]
            refine wpAnyH_done (by kernel_rfl) ?_ _
            go_wp2_with fail
            go_meet
            case rel => exact ⟨w47.heap.size, w3.heap.size, pf, lf, Kf, pc, lc, Kc, rfl, rfl, Sv.of S [0, 1, 3, 2] rfl, nf, nc, HH⟩
      case rest =>
        obtain ⟨g3, g4, pf, lf, Kf, pc, lc, Kc, rfl, rfl, S, nf, nc, HH⟩ := hcut
        obtain ⟨w62, rfl⟩ : ∃ W : World, W = wc := ⟨_, rfl⟩
        replace nA := nA.hold HH
        replace dA := dA.hold HH
        clear HH
        have c0_0 := S.c 0 0 rfl rfl
        have c0_1 := S.c 0 1 rfl rfl
        have c0_2 := S.c 0 2 rfl rfl
        have c2_0 := S.c 2 0 rfl rfl
        have c2_1 := S.c 2 1 rfl rfl
        have c3_0 := S.c 3 0 rfl rfl
        have c3_1 := S.c 3 1 rfl rfl
        go_upto_region 6 with fail
        clear c0_0 c0_1 c0_2 c2_0 c2_1 c3_0 c3_1
        replace nA := nA.hold (Hold.drew _)
        replace dA := dA.hold (Hold.drew _)
        replace nf := nf.hold (Hold.drew _)
        replace nc := nc.hold (Hold.drew _)
        replace S := S.drew
        refine wp_region_held_drew (S := fun W => W.cell? ⟨g3, 0, none⟩ = some (.bool (negB zf)) ∧ W.cell? ⟨g3, 1, none⟩ = some (.slice pf lf Kf) ∧ W.cell? ⟨w.heap.size, 0, none⟩ = some (.bool bA) ∧ W.cell? ⟨w.heap.size, 1, none⟩ = some (.slice pA lA KA) ∧ W.cell? ⟨w.heap.size, 2, none⟩ = some (.slice qA jA JA)) (by kernel_rfl) ⟨S.c 2 0 rfl rfl, S.c 2 1 rfl rfl, S.c 0 0 rfl rfl, S.c 0 1 rfl rfl, S.c 0 2 rfl rfl⟩ (fun hS => ?_)
        refine wpAnyH_take (i := 0) (v := ?_) ((List.getElem?_toArray ..).trans rfl) (by kernel_rfl) (by kernel_rfl) (by kernel_rfl) (fun _ _ _ h => h) (Or.inl ⟨rfl, fun W hW => ?_⟩) hS ?_
        rotate_left
        · obtain ⟨hW0, hW1, hW2, hW3, hW4⟩ := hW; go_simp; try first | rfl | (rw [if_neg (by first | omega | (simp only [ByteArray.size_append]; first | omega | (have h1 : (ByteArray.mk #[47]).size = 1 := rfl; omega)))]; try rfl) | kernel_rfl
        try simp only [Act.put, List.setIfInBounds_toArray, List.set_cons_zero, List.set_cons_succ]
        refine wpAnyH_take (i := 2) (v := ?_) ((List.getElem?_toArray ..).trans rfl) (by kernel_rfl) (by kernel_rfl) (by kernel_rfl) (fun _ _ _ h => h) (Or.inl ⟨rfl, fun W hW => ?_⟩) hS ?_
        rotate_left
        · obtain ⟨hW0, hW1, hW2, hW3, hW4⟩ := hW; go_simp; try first | rfl | (rw [if_neg (by first | omega | (simp only [ByteArray.size_append]; first | omega | (have h1 : (ByteArray.mk #[47]).size = 1 := rfl; omega)))]; try rfl) | kernel_rfl
        try simp only [Act.put, List.setIfInBounds_toArray, List.set_cons_zero, List.set_cons_succ]
        refine wpAnyH_ready (rs := [1]) (by kernel_rfl) (by simp) (AllReadyH.cons ((List.getElem?_toArray ..).trans rfl) (fun KK hKK => ?_) AllReadyH.nil)
        go_simp
        refine (S.call (rwhole_any ⟨_, _, _, rfl, nf⟩ (nb_max HF.out.2 (by decide)) ((zf : Int) : Rat) rfl)).mono ?_; clear S; rintro e w63 ⟨⟨_, rfl, bF, pF, lF, KF, qF, jF, JF, rfl, hF, nF, dF⟩, S, H⟩; replace nA := nA.hold H; replace dA := dA.hold H; replace nf := nf.hold H; replace nc := nc.hold H; clear H
        go_wp2_with fail
        refine hKK.out _ _ ⟨S.c 2 0 rfl rfl, S.c 2 1 rfl rfl, S.c 0 0 rfl rfl, S.c 0 1 rfl rfl, S.c 0 2 rfl rfl⟩ (fun hS => ?_)
        clear hKK KK
        try simp only [Act.put, List.setIfInBounds_toArray, List.set_cons_zero, List.set_cons_succ]
        refine wpAnyH_ready (rs := [3]) (by kernel_rfl) (by simp) (AllReadyH.cons ((List.getElem?_toArray ..).trans rfl) (fun KK hKK => ?_) AllReadyH.nil)
        go_simp
        refine (S.call (rcompare_any ⟨bF, pF, lF, KF, qF, jF, JF, rfl, hF, nF, dF⟩ ⟨bA, pA, lA, KA, qA, jA, JA, rfl, hA, nA, dA⟩ RF.out RA.out (by decide) (-1) HK.out.1)).mono ?_; clear S; rintro e w64 ⟨rfl, S, H⟩; replace nA := nA.hold H; replace dA := dA.hold H; replace nf := nf.hold H; replace nc := nc.hold H; replace nF := nF.hold H; replace dF := dF.hold H; clear H
        go_wp2_with fail
        refine hKK.out _ _ ⟨S.c 2 0 rfl rfl, S.c 2 1 rfl rfl, S.c 0 0 rfl rfl, S.c 0 1 rfl rfl, S.c 0 2 rfl rfl⟩ (fun hS => ?_)
        clear hKK KK
        try simp only [Act.put, List.setIfInBounds_toArray, List.set_cons_zero, List.set_cons_succ]
        refine wpAnyH_take (i := 4) (v := ?_) ((List.getElem?_toArray ..).trans rfl) (by kernel_rfl) (by kernel_rfl) (by kernel_rfl) (fun _ _ _ h => h) (Or.inl ⟨rfl, fun W hW => ?_⟩) hS ?_
        rotate_left
        · obtain ⟨hW0, hW1, hW2, hW3, hW4⟩ := hW; go_simp; try first | rfl | (rw [if_neg (by first | omega | (simp only [ByteArray.size_append]; first | omega | (have h1 : (ByteArray.mk #[47]).size = 1 := rfl; omega)))]; try rfl) | kernel_rfl
        try simp only [Act.put, List.setIfInBounds_toArray, List.set_cons_zero, List.set_cons_succ]
        refine wpAnyH_take (i := 5) (v := ?_) ((List.getElem?_toArray ..).trans rfl) (by kernel_rfl) (by kernel_rfl) (by kernel_rfl) (fun _ _ _ h => h) (Or.inl ⟨rfl, fun W hW => ?_⟩) hS ?_
        rotate_left
        · obtain ⟨hW0, hW1, hW2, hW3, hW4⟩ := hW; go_simp; try first | rfl | (rw [if_neg (by first | omega | (simp only [ByteArray.size_append]; first | omega | (have h1 : (ByteArray.mk #[47]).size = 1 := rfl; omega)))]; try rfl) | kernel_rfl
        try simp only [Act.put, List.setIfInBounds_toArray, List.set_cons_zero, List.set_cons_succ]
        refine wpAnyH_take (i := 6) (v := ?_) ((List.getElem?_toArray ..).trans rfl) (by kernel_rfl) (by kernel_rfl) (by kernel_rfl) (fun _ _ _ h => h) (Or.inl ⟨rfl, fun W hW => ?_⟩) hS ?_
        rotate_left
        · obtain ⟨hW0, hW1, hW2, hW3, hW4⟩ := hW; go_simp; try first | rfl | (rw [if_neg (by first | omega | (simp only [ByteArray.size_append]; first | omega | (have h1 : (ByteArray.mk #[47]).size = 1 := rfl; omega)))]; try rfl) | kernel_rfl
        try simp only [Act.put, List.setIfInBounds_toArray, List.set_cons_zero, List.set_cons_succ]
        refine wpAnyH_ready (rs := [7]) (by kernel_rfl) (by simp) (AllReadyH.cons ((List.getElem?_toArray ..).trans rfl) (fun KK hKK => ?_) AllReadyH.nil)
        go_simp
        refine hKK.out _ _ ⟨S.c 2 0 rfl rfl, S.c 2 1 rfl rfl, S.c 0 0 rfl rfl, S.c 0 1 rfl rfl, S.c 0 2 rfl rfl⟩ (fun hS => ?_)
        clear hKK KK
        try simp only [Act.put, List.setIfInBounds_toArray, List.set_cons_zero, List.set_cons_succ]
        refine wpAnyH_ready (rs := [8]) (by kernel_rfl) (by simp) (AllReadyH.cons ((List.getElem?_toArray ..).trans rfl) (fun KK hKK => ?_) AllReadyH.nil)
        go_simp
        refine hKK.out _ _ ⟨S.c 2 0 rfl rfl, S.c 2 1 rfl rfl, S.c 0 0 rfl rfl, S.c 0 1 rfl rfl, S.c 0 2 rfl rfl⟩ (fun hS => ?_)
        clear hKK KK
        try simp only [Act.put, List.setIfInBounds_toArray, List.set_cons_zero, List.set_cons_succ]
        refine wpAnyH_done (by kernel_rfl) ?_ _
        go_upto_region 7 with fail
        replace nA := nA.hold (Hold.drew _)
        replace dA := dA.hold (Hold.drew _)
        replace nf := nf.hold (Hold.drew _)
        replace nc := nc.hold (Hold.drew _)
        replace nF := nF.hold (Hold.drew _)
        replace dF := dF.hold (Hold.drew _)
        replace S := S.drew
        refine wp_region_held_drew (S := fun W => W.cell? ⟨g4, 0, none⟩ = some (.bool (negB zc)) ∧ W.cell? ⟨g4, 1, none⟩ = some (.slice pc lc Kc) ∧ W.cell? ⟨w.heap.size, 0, none⟩ = some (.bool bA) ∧ W.cell? ⟨w.heap.size, 1, none⟩ = some (.slice pA lA KA) ∧ W.cell? ⟨w.heap.size, 2, none⟩ = some (.slice qA jA JA)) (by kernel_rfl) ⟨S.c 3 0 rfl rfl, S.c 3 1 rfl rfl, S.c 0 0 rfl rfl, S.c 0 1 rfl rfl, S.c 0 2 rfl rfl⟩ (fun hS => ?_)
        refine wpAnyH_take (i := 0) (v := ?_) ((List.getElem?_toArray ..).trans rfl) (by kernel_rfl) (by kernel_rfl) (by kernel_rfl) (fun _ _ _ h => h) (Or.inl ⟨rfl, fun W hW => ?_⟩) hS ?_
        rotate_left
        · obtain ⟨hW0, hW1, hW2, hW3, hW4⟩ := hW; go_simp; try first | rfl | (rw [if_neg (by first | omega | (simp only [ByteArray.size_append]; first | omega | (have h1 : (ByteArray.mk #[47]).size = 1 := rfl; omega)))]; try rfl) | kernel_rfl
        try simp only [Act.put, List.setIfInBounds_toArray, List.set_cons_zero, List.set_cons_succ]
        refine wpAnyH_take (i := 1) (v := ?_) ((List.getElem?_toArray ..).trans rfl) (by kernel_rfl) (by kernel_rfl) (by kernel_rfl) (fun _ _ _ h => h) (Or.inl ⟨rfl, fun W hW => ?_⟩) hS ?_
        rotate_left
        · obtain ⟨hW0, hW1, hW2, hW3, hW4⟩ := hW; go_simp; try first | rfl | (rw [if_neg (by first | omega | (simp only [ByteArray.size_append]; first | omega | (have h1 : (ByteArray.mk #[47]).size = 1 := rfl; omega)))]; try rfl) | kernel_rfl
        try simp only [Act.put, List.setIfInBounds_toArray, List.set_cons_zero, List.set_cons_succ]
        refine wpAnyH_ready (rs := [2]) (by kernel_rfl) (by simp) (AllReadyH.cons ((List.getElem?_toArray ..).trans rfl) (fun KK hKK => ?_) AllReadyH.nil)
        go_simp
        refine (S.call (rwhole_any ⟨_, _, _, rfl, nc⟩ (nb_max HC.out.2 (by decide)) ((zc : Int) : Rat) rfl)).mono ?_; clear S; rintro e w65 ⟨⟨_, rfl, bG, pG, lG, KG, qG, jG, JG, rfl, hG, nG, dG⟩, S, H⟩; replace nA := nA.hold H; replace dA := dA.hold H; replace nf := nf.hold H; replace nc := nc.hold H; replace nF := nF.hold H; replace dF := dF.hold H; clear H
        go_wp2_with fail
        refine hKK.out _ _ ⟨S.c 3 0 rfl rfl, S.c 3 1 rfl rfl, S.c 0 0 rfl rfl, S.c 0 1 rfl rfl, S.c 0 2 rfl rfl⟩ (fun hS => ?_)
        clear hKK KK
        try simp only [Act.put, List.setIfInBounds_toArray, List.set_cons_zero, List.set_cons_succ]
        refine wpAnyH_ready (rs := [3]) (by kernel_rfl) (by simp) (AllReadyH.cons ((List.getElem?_toArray ..).trans rfl) (fun KK hKK => ?_) AllReadyH.nil)
        go_simp
        refine (S.call (rcompare_any ⟨bA, pA, lA, KA, qA, jA, JA, rfl, hA, nA, dA⟩ ⟨bG, pG, lG, KG, qG, jG, JG, rfl, hG, nG, dG⟩ RA.out RG.out (by decide) (-1) HK.out.2.1)).mono ?_; clear S; rintro e w66 ⟨rfl, S, H⟩; replace nA := nA.hold H; replace dA := dA.hold H; replace nf := nf.hold H; replace nc := nc.hold H; replace nF := nF.hold H; replace dF := dF.hold H; replace nG := nG.hold H; replace dG := dG.hold H; clear H
        go_wp2_with fail
        refine hKK.out _ _ ⟨S.c 3 0 rfl rfl, S.c 3 1 rfl rfl, S.c 0 0 rfl rfl, S.c 0 1 rfl rfl, S.c 0 2 rfl rfl⟩ (fun hS => ?_)
        clear hKK KK
        try simp only [Act.put, List.setIfInBounds_toArray, List.set_cons_zero, List.set_cons_succ]
        refine wpAnyH_take (i := 4) (v := ?_) ((List.getElem?_toArray ..).trans rfl) (by kernel_rfl) (by kernel_rfl) (by kernel_rfl) (fun _ _ _ h => h) (Or.inl ⟨rfl, fun W hW => ?_⟩) hS ?_
        rotate_left
        · obtain ⟨hW0, hW1, hW2, hW3, hW4⟩ := hW; go_simp; try first | rfl | (rw [if_neg (by first | omega | (simp only [ByteArray.size_append]; first | omega | (have h1 : (ByteArray.mk #[47]).size = 1 := rfl; omega)))]; try rfl) | kernel_rfl
        try simp only [Act.put, List.setIfInBounds_toArray, List.set_cons_zero, List.set_cons_succ]
        refine wpAnyH_take (i := 5) (v := ?_) ((List.getElem?_toArray ..).trans rfl) (by kernel_rfl) (by kernel_rfl) (by kernel_rfl) (fun _ _ _ h => h) (Or.inl ⟨rfl, fun W hW => ?_⟩) hS ?_
        rotate_left
        · obtain ⟨hW0, hW1, hW2, hW3, hW4⟩ := hW; go_simp; try first | rfl | (rw [if_neg (by first | omega | (simp only [ByteArray.size_append]; first | omega | (have h1 : (ByteArray.mk #[47]).size = 1 := rfl; omega)))]; try rfl) | kernel_rfl
        try simp only [Act.put, List.setIfInBounds_toArray, List.set_cons_zero, List.set_cons_succ]
        refine wpAnyH_take (i := 6) (v := ?_) ((List.getElem?_toArray ..).trans rfl) (by kernel_rfl) (by kernel_rfl) (by kernel_rfl) (fun _ _ _ h => h) (Or.inl ⟨rfl, fun W hW => ?_⟩) hS ?_
        rotate_left
        · obtain ⟨hW0, hW1, hW2, hW3, hW4⟩ := hW; go_simp; try first | rfl | (rw [if_neg (by first | omega | (simp only [ByteArray.size_append]; first | omega | (have h1 : (ByteArray.mk #[47]).size = 1 := rfl; omega)))]; try rfl) | kernel_rfl
        try simp only [Act.put, List.setIfInBounds_toArray, List.set_cons_zero, List.set_cons_succ]
        refine wpAnyH_ready (rs := [7]) (by kernel_rfl) (by simp) (AllReadyH.cons ((List.getElem?_toArray ..).trans rfl) (fun KK hKK => ?_) AllReadyH.nil)
        go_simp
        refine hKK.out _ _ ⟨S.c 3 0 rfl rfl, S.c 3 1 rfl rfl, S.c 0 0 rfl rfl, S.c 0 1 rfl rfl, S.c 0 2 rfl rfl⟩ (fun hS => ?_)
        clear hKK KK
        try simp only [Act.put, List.setIfInBounds_toArray, List.set_cons_zero, List.set_cons_succ]
        refine wpAnyH_ready (rs := [8]) (by kernel_rfl) (by simp) (AllReadyH.cons ((List.getElem?_toArray ..).trans rfl) (fun KK hKK => ?_) AllReadyH.nil)
        go_simp
        refine hKK.out _ _ ⟨S.c 3 0 rfl rfl, S.c 3 1 rfl rfl, S.c 0 0 rfl rfl, S.c 0 1 rfl rfl, S.c 0 2 rfl rfl⟩ (fun hS => ?_)
        clear hKK KK
        try simp only [Act.put, List.setIfInBounds_toArray, List.set_cons_zero, List.set_cons_succ]
        refine wpAnyH_done (by kernel_rfl) ?_ _
        have c0_0 := S.c 0 0 rfl rfl
        have c0_1 := S.c 0 1 rfl rfl
        have c0_2 := S.c 0 2 rfl rfl
        have c2_0 := S.c 2 0 rfl rfl
        have c2_1 := S.c 2 1 rfl rfl
        have c3_0 := S.c 3 0 rfl rfl
        have c3_1 := S.c 3 1 rfl rfl
        go_wp2_with fail
        clear c0_0 c0_1 c0_2 c2_0 c2_1 c3_0 c3_1
        refine (S.call (wsub_to ⟨_, _, _, rfl, nc⟩ ⟨_, _, _, rfl, nf⟩ (nb_max HC.out.2 (by decide)) (nb_max HF.out.2 (by decide)) zd HD.out.1 HD.out.2)).mono ?_
        clear S
        rintro e w67 ⟨⟨_, rfl, pd, ld, Kd, rfl, nd⟩, S, H⟩
        replace nA := nA.hold H
        replace dA := dA.hold H
        replace nf := nf.hold H
        replace nc := nc.hold H
        replace nF := nF.hold H
        replace dF := dF.hold H
        replace nG := nG.hold H
        replace dG := dG.hold H
        clear H
        have c0_0 := S.c 0 0 rfl rfl
        have c0_1 := S.c 0 1 rfl rfl
        have c0_2 := S.c 0 2 rfl rfl
        have c2_0 := S.c 2 0 rfl rfl
        have c2_1 := S.c 2 1 rfl rfl
        have c3_0 := S.c 3 0 rfl rfl
        have c3_1 := S.c 3 1 rfl rfl
        have H := S.hnew 25 [.bool (negB zd), .slice pd ld Kd]
        replace S := S.alloc 25 [.bool (negB zd), .slice pd ld Kd] (w67.heap.size)
        replace nA := nA.hold H
        replace dA := dA.hold H
        replace nf := nf.hold H
        replace nc := nc.hold H
        replace nF := nF.hold H
        replace dF := dF.hold H
        replace nG := nG.hold H
        replace dG := dG.hold H
        replace nd := nd.hold H
        clear H
        clear c0_0 c0_1 c0_2 c2_0 c2_1 c3_0 c3_1
        have c0_0 := S.c 0 0 rfl rfl
        have c0_1 := S.c 0 1 rfl rfl
        have c0_2 := S.c 0 2 rfl rfl
        have c2_0 := S.c 2 0 rfl rfl
        have c2_1 := S.c 2 1 rfl rfl
        have c3_0 := S.c 3 0 rfl rfl
        have c3_1 := S.c 3 1 rfl rfl
        have c4_0 := S.c 4 0 rfl rfl
        have c4_1 := S.c 4 1 rfl rfl
        go_upto_region 9 with fail
        clear c0_0 c0_1 c0_2 c2_0 c2_1 c3_0 c3_1 c4_0 c4_1
        replace nA := nA.hold (Hold.drew _)
        replace dA := dA.hold (Hold.drew _)
        replace nf := nf.hold (Hold.drew _)
        replace nc := nc.hold (Hold.drew _)
        replace nF := nF.hold (Hold.drew _)
        replace dF := dF.hold (Hold.drew _)
        replace nG := nG.hold (Hold.drew _)
        replace dG := dG.hold (Hold.drew _)
        replace nd := nd.hold (Hold.drew _)
        replace S := S.drew
        refine wp_region_held_drew (S := fun W => W.cell? ⟨w.heap.size, 1, none⟩ = some (.slice pA lA KA) ∧ W.cell? ⟨w.heap.size, 2, none⟩ = some (.slice qA jA JA)) (by kernel_rfl) ⟨S.c 0 1 rfl rfl, S.c 0 2 rfl rfl⟩ (fun hS => ?_)
        refine wpAnyH_take (i := 0) (v := ?_) ((List.getElem?_toArray ..).trans rfl) (by kernel_rfl) (by kernel_rfl) (by kernel_rfl) (fun _ _ _ h => h) (Or.inl ⟨rfl, fun W hW => ?_⟩) hS ?_
        rotate_left
        · obtain ⟨hW0, hW1⟩ := hW; go_simp; try first | rfl | (rw [if_neg (by first | omega | (simp only [ByteArray.size_append]; first | omega | (have h1 : (ByteArray.mk #[47]).size = 1 := rfl; omega)))]; try rfl) | kernel_rfl
        try simp only [Act.put, List.setIfInBounds_toArray, List.set_cons_zero, List.set_cons_succ]
        refine wpAnyH_take (i := 1) (v := ?_) ((List.getElem?_toArray ..).trans rfl) (by kernel_rfl) (by kernel_rfl) (by kernel_rfl) (fun _ _ _ h => h) (Or.inl ⟨rfl, fun W hW => ?_⟩) hS ?_
        rotate_left
        · obtain ⟨hW0, hW1⟩ := hW; go_simp; try first | rfl | (rw [if_neg (by first | omega | (simp only [ByteArray.size_append]; first | omega | (have h1 : (ByteArray.mk #[47]).size = 1 := rfl; omega)))]; try rfl) | kernel_rfl
        try simp only [Act.put, List.setIfInBounds_toArray, List.set_cons_zero, List.set_cons_succ]
        refine wpAnyH_ready (rs := [2]) (by kernel_rfl) (by simp) (AllReadyH.cons ((List.getElem?_toArray ..).trans rfl) (fun KK hKK => ?_) AllReadyH.nil)
        go_simp
        refine (S.call (of_any 1 _ (by decide))).mono ?_; clear S; rintro e w68 ⟨⟨_, rfl, n1⟩, S, H⟩; replace nA := nA.hold H; replace dA := dA.hold H; replace nf := nf.hold H; replace nc := nc.hold H; replace nF := nF.hold H; replace dF := dF.hold H; replace nG := nG.hold H; replace dG := dG.hold H; replace nd := nd.hold H; clear H
        go_wp2_with fail
        refine hKK.out _ _ ⟨S.c 0 1 rfl rfl, S.c 0 2 rfl rfl⟩ (fun hS => ?_)
        clear hKK KK
        try simp only [Act.put, List.setIfInBounds_toArray, List.set_cons_zero, List.set_cons_succ]
        refine wpAnyH_ready (rs := [3]) (by kernel_rfl) (by simp) (AllReadyH.cons ((List.getElem?_toArray ..).trans rfl) (fun KK hKK => ?_) AllReadyH.nil)
        go_simp
        refine (S.call (compare_nat dA n1 (rb_max RA.out (by decide)).2 (lit_max 1 (by decide)) HK.out.2.2.1)).mono ?_; clear S; rintro e w69 ⟨rfl, S, H⟩; replace nA := nA.hold H; replace dA := dA.hold H; replace nf := nf.hold H; replace nc := nc.hold H; replace nF := nF.hold H; replace dF := dF.hold H; replace nG := nG.hold H; replace dG := dG.hold H; replace nd := nd.hold H; replace n1 := n1.hold H; clear H
        go_wp2_with fail
        refine hKK.out _ _ ⟨S.c 0 1 rfl rfl, S.c 0 2 rfl rfl⟩ (fun hS => ?_)
        clear hKK KK
        try simp only [Act.put, List.setIfInBounds_toArray, List.set_cons_zero, List.set_cons_succ]
        refine wpAnyH_take (i := 4) (v := ?_) ((List.getElem?_toArray ..).trans rfl) (by kernel_rfl) (by kernel_rfl) (by kernel_rfl) (fun _ _ _ h => h) (Or.inl ⟨rfl, fun W hW => ?_⟩) hS ?_
        rotate_left
        · obtain ⟨hW0, hW1⟩ := hW; go_simp; try first | rfl | (rw [if_neg (by first | omega | (simp only [ByteArray.size_append]; first | omega | (have h1 : (ByteArray.mk #[47]).size = 1 := rfl; omega)))]; try rfl) | kernel_rfl
        try simp only [Act.put, List.setIfInBounds_toArray, List.set_cons_zero, List.set_cons_succ]
        refine wpAnyH_done (by kernel_rfl) ?_ _
        go_upto_region 11 with fail
        replace nA := nA.hold (Hold.drew _)
        replace dA := dA.hold (Hold.drew _)
        replace nf := nf.hold (Hold.drew _)
        replace nc := nc.hold (Hold.drew _)
        replace nF := nF.hold (Hold.drew _)
        replace dF := dF.hold (Hold.drew _)
        replace nG := nG.hold (Hold.drew _)
        replace dG := dG.hold (Hold.drew _)
        replace nd := nd.hold (Hold.drew _)
        replace n1 := n1.hold (Hold.drew _)
        replace S := S.drew
        refine wp_region_held_drew (S := fun W => W.cell? ⟨w67.heap.size, 0, none⟩ = some (.bool (negB zd)) ∧ W.cell? ⟨w67.heap.size, 1, none⟩ = some (.slice pd ld Kd)) (by kernel_rfl) ⟨S.c 4 0 rfl rfl, S.c 4 1 rfl rfl⟩ (fun hS => ?_)
        refine wpAnyH_take (i := 0) (v := ?_) ((List.getElem?_toArray ..).trans rfl) (by kernel_rfl) (by kernel_rfl) (by kernel_rfl) (fun _ _ _ h => h) (Or.inl ⟨rfl, fun W hW => ?_⟩) hS ?_
        rotate_left
        · obtain ⟨hW0, hW1⟩ := hW; go_simp; try first | rfl | (rw [if_neg (by first | omega | (simp only [ByteArray.size_append]; first | omega | (have h1 : (ByteArray.mk #[47]).size = 1 := rfl; omega)))]; try rfl) | kernel_rfl
        try simp only [Act.put, List.setIfInBounds_toArray, List.set_cons_zero, List.set_cons_succ]
        refine wpAnyH_take (i := 1) (v := ?_) ((List.getElem?_toArray ..).trans rfl) (by kernel_rfl) (by kernel_rfl) (by kernel_rfl) (fun _ _ _ h => h) (Or.inl ⟨rfl, fun W hW => ?_⟩) hS ?_
        rotate_left
        · obtain ⟨hW0, hW1⟩ := hW; go_simp; try first | rfl | (rw [if_neg (by first | omega | (simp only [ByteArray.size_append]; first | omega | (have h1 : (ByteArray.mk #[47]).size = 1 := rfl; omega)))]; try rfl) | kernel_rfl
        try simp only [Act.put, List.setIfInBounds_toArray, List.set_cons_zero, List.set_cons_succ]
        refine wpAnyH_take (i := 2) (v := ?_) ((List.getElem?_toArray ..).trans rfl) (by kernel_rfl) (by kernel_rfl) (by kernel_rfl) (fun _ _ _ h => h) (Or.inl ⟨rfl, fun W hW => ?_⟩) hS ?_
        rotate_left
        · obtain ⟨hW0, hW1⟩ := hW; go_simp; try first | rfl | (rw [if_neg (by first | omega | (simp only [ByteArray.size_append]; first | omega | (have h1 : (ByteArray.mk #[47]).size = 1 := rfl; omega)))]; try rfl) | kernel_rfl
        try simp only [Act.put, List.setIfInBounds_toArray, List.set_cons_zero, List.set_cons_succ]
        refine wpAnyH_take (i := 3) (v := ?_) ((List.getElem?_toArray ..).trans rfl) (by kernel_rfl) (by kernel_rfl) (by kernel_rfl) (fun _ _ _ h => h) (Or.inl ⟨rfl, fun W hW => ?_⟩) hS ?_
        rotate_left
        · obtain ⟨hW0, hW1⟩ := hW; go_simp; try first | rfl | (rw [if_neg (by first | omega | (simp only [ByteArray.size_append]; first | omega | (have h1 : (ByteArray.mk #[47]).size = 1 := rfl; omega)))]; try rfl) | kernel_rfl
        try simp only [Act.put, List.setIfInBounds_toArray, List.set_cons_zero, List.set_cons_succ]
        refine wpAnyH_take (i := 4) (v := ?_) ((List.getElem?_toArray ..).trans rfl) (by kernel_rfl) (by kernel_rfl) (by kernel_rfl) (fun _ _ _ h => h) (Or.inl ⟨rfl, fun W hW => ?_⟩) hS ?_
        rotate_left
        · obtain ⟨hW0, hW1⟩ := hW; go_simp; try first | rfl | (rw [if_neg (by first | omega | (simp only [ByteArray.size_append]; first | omega | (have h1 : (ByteArray.mk #[47]).size = 1 := rfl; omega)))]; try rfl) | kernel_rfl
        try simp only [Act.put, List.setIfInBounds_toArray, List.set_cons_zero, List.set_cons_succ]
        refine wpAnyH_take (i := 5) (v := ?_) ((List.getElem?_toArray ..).trans rfl) (by kernel_rfl) (by kernel_rfl) (by kernel_rfl) (fun _ _ _ h => h) (Or.inl ⟨rfl, fun W hW => ?_⟩) hS ?_
        rotate_left
        · obtain ⟨hW0, hW1⟩ := hW; go_simp; try first | rfl | (rw [if_neg (by first | omega | (simp only [ByteArray.size_append]; first | omega | (have h1 : (ByteArray.mk #[47]).size = 1 := rfl; omega)))]; try rfl) | kernel_rfl
        try simp only [Act.put, List.setIfInBounds_toArray, List.set_cons_zero, List.set_cons_succ]
        refine wpAnyH_take (i := 6) (v := ?_) ((List.getElem?_toArray ..).trans rfl) (by kernel_rfl) (by kernel_rfl) (by kernel_rfl) (fun _ _ _ h => h) (Or.inl ⟨rfl, fun W hW => ?_⟩) hS ?_
        rotate_left
        · obtain ⟨hW0, hW1⟩ := hW; go_simp; try first | rfl | (rw [if_neg (by first | omega | (simp only [ByteArray.size_append]; first | omega | (have h1 : (ByteArray.mk #[47]).size = 1 := rfl; omega)))]; try rfl) | kernel_rfl
        try simp only [Act.put, List.setIfInBounds_toArray, List.set_cons_zero, List.set_cons_succ]
        refine wpAnyH_take (i := 7) (v := ?_) ((List.getElem?_toArray ..).trans rfl) (by kernel_rfl) (by kernel_rfl) (by kernel_rfl) (fun _ _ _ h => h) (Or.inl ⟨rfl, fun W hW => ?_⟩) hS ?_
        rotate_left
        · obtain ⟨hW0, hW1⟩ := hW; go_simp; try first | rfl | (rw [if_neg (by first | omega | (simp only [ByteArray.size_append]; first | omega | (have h1 : (ByteArray.mk #[47]).size = 1 := rfl; omega)))]; try rfl) | kernel_rfl
        try simp only [Act.put, List.setIfInBounds_toArray, List.set_cons_zero, List.set_cons_succ]
        refine wpAnyH_ready (rs := [8]) (by kernel_rfl) (by simp) (AllReadyH.cons ((List.getElem?_toArray ..).trans rfl) (fun KK hKK => ?_) AllReadyH.nil)
        go_simp
        refine (S.call (wof_any 1 _ (by decide) (by decide))).mono ?_; clear S; rintro e w70 ⟨⟨_, rfl, pe, le, Ke, rfl, ne⟩, S, H⟩; replace nA := nA.hold H; replace dA := dA.hold H; replace nf := nf.hold H; replace nc := nc.hold H; replace nF := nF.hold H; replace dF := dF.hold H; replace nG := nG.hold H; replace dG := dG.hold H; replace nd := nd.hold H; replace n1 := n1.hold H; clear H
        go_wp2_with fail
        refine hKK.out _ _ ⟨S.c 4 0 rfl rfl, S.c 4 1 rfl rfl⟩ (fun hS => ?_)
        clear hKK KK
        try simp only [Act.put, List.setIfInBounds_toArray, List.set_cons_zero, List.set_cons_succ]
        refine wpAnyH_ready (rs := [9]) (by kernel_rfl) (by simp) (AllReadyH.cons ((List.getElem?_toArray ..).trans rfl) (fun KK hKK => ?_) AllReadyH.nil)
        go_simp
        refine (S.call (wsame_any ⟨_, _, _, rfl, nd⟩ ⟨_, _, _, rfl, ne⟩ HD.out.2 (lit_max 1 (by decide)) HK.out.2.2.2)).mono ?_; clear S; rintro e w71 ⟨rfl, S, H⟩; replace nA := nA.hold H; replace dA := dA.hold H; replace nf := nf.hold H; replace nc := nc.hold H; replace nF := nF.hold H; replace dF := dF.hold H; replace nG := nG.hold H; replace dG := dG.hold H; replace nd := nd.hold H; replace n1 := n1.hold H; replace ne := ne.hold H; clear H
        go_wp2_with fail
        refine hKK.out _ _ ⟨S.c 4 0 rfl rfl, S.c 4 1 rfl rfl⟩ (fun hS => ?_)
        clear hKK KK
        try simp only [Act.put, List.setIfInBounds_toArray, List.set_cons_zero, List.set_cons_succ]
        refine wpAnyH_take (i := 10) (v := ?_) ((List.getElem?_toArray ..).trans rfl) (by kernel_rfl) (by kernel_rfl) (by kernel_rfl) (fun _ _ _ h => h) (Or.inl ⟨rfl, fun W hW => ?_⟩) hS ?_
        rotate_left
        · obtain ⟨hW0, hW1⟩ := hW; go_simp; try first | rfl | (rw [if_neg (by first | omega | (simp only [ByteArray.size_append]; first | omega | (have h1 : (ByteArray.mk #[47]).size = 1 := rfl; omega)))]; try rfl) | kernel_rfl
        try simp only [Act.put, List.setIfInBounds_toArray, List.set_cons_zero, List.set_cons_succ]
        refine wpAnyH_ready (rs := [11]) (by kernel_rfl) (by simp) (AllReadyH.cons ((List.getElem?_toArray ..).trans rfl) (fun KK hKK => ?_) AllReadyH.nil)
        go_simp
        refine hKK.out _ _ ⟨S.c 4 0 rfl rfl, S.c 4 1 rfl rfl⟩ (fun hS => ?_)
        clear hKK KK
        try simp only [Act.put, List.setIfInBounds_toArray, List.set_cons_zero, List.set_cons_succ]
        refine wpAnyH_done (by kernel_rfl) ?_ _
        go_wp2_with fail
        exact bodyPost_ret (v := .bool true) (by simp [results, Try.f6, go_sem]) rfl (⟨rfl, S.below⟩)

end Go.Proofs.Ytggnjlbnfgjgdaa
