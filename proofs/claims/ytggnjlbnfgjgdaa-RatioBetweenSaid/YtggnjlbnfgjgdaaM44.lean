/-
  girdlelaw04.RatioBetween, as a walk: whatever the two ratios, it returns true.
-/
import Derived.Test.YtggnjlbnfgjgdaaM20
import Derived.Test.YtggnjlbnfgjgdaaM29

namespace Go.Proofs.Ytggnjlbnfgjgdaa
open Go.RowKit

theorem rhalf_is : (1 / 2 : Rat) = Rat.divInt 1 2 := by decide +kernel
theorem rhalf_rb : RB (1 / 2) 1 := rb_one (by decide +kernel) (by decide +kernel)

set_option maxRecDepth 100000 in
set_option maxHeartbeats 16000000 in
theorem ratioBetween_any (bA : Bool) (pA qA : Option Addr) (KA JA : Nat) (dsA esA : List Nat) (bB : Bool) (pB qB : Option Addr) (KB JB : Nat) (dsB esB : List Nat) (w : World) (atA : At .u32 w pA KA dsA) (ctA : At .u32 w qA JA esA) (ddA : Dig 4294967296 dsA) (deA : Dig 4294967296 esA) (atB : At .u32 w pB KB dsB) (ctB : At .u32 w qB JB esB) (ddB : Dig 4294967296 dsB) (deB : Dig 4294967296 esB) :
    Calls Try.prog 9 #[.agg #[.bool bA, .slice pA dsA.length KA, .slice qA esA.length JA], .agg #[.bool bB, .slice pB dsB.length KB, .slice qB esB.length JB]] w fun e w' => e = .returned (.bool true) ∧ Below w.heap.size w w' := by
  have HDA := Lib.hid (And.intro ddA deA)
  obtain ⟨lA, hlA⟩ : ∃ l, dsA.length = l := ⟨_, rfl⟩
  obtain ⟨jA, hjA⟩ : ∃ l, esA.length = l := ⟨_, rfl⟩
  have HLA := Lib.hid (And.intro hlA hjA)
  rw [hlA, hjA]
  have HDB := Lib.hid (And.intro ddB deB)
  obtain ⟨lB, hlB⟩ : ∃ l, dsB.length = l := ⟨_, rfl⟩
  obtain ⟨jB, hjB⟩ : ∃ l, esB.length = l := ⟨_, rfl⟩
  have HLB := Lib.hid (And.intro hlB hjB)
  rw [hlB, hjB]
  clear ddA deA hlA hjA ddB deB hlB hjB
  have S := ((St.start w).alloc 30 [.bool bA, .slice pA lA KA, .slice qA jA JA] (w.heap.size)).alloc 30 [.bool bB, .slice pB lB KB, .slice qB jB JB] (w.heap.size + 1)
  replace atA := atA.hold S.hold
  replace ctA := ctA.hold S.hold
  replace atB := atB.hold S.hold
  replace ctB := ctB.hold S.hold
  have c0_0 := S.c 0 0 rfl rfl
  have c0_1 := S.c 0 1 rfl rfl
  have c0_2 := S.c 0 2 rfl rfl
  have c1_0 := S.c 1 0 rfl rfl
  have c1_1 := S.c 1 1 rfl rfl
  have c1_2 := S.c 1 2 rfl rfl
  go_enter Try.func9, Try.ntmps9
  go_wp2_with fail
  clear c0_0 c0_1 c0_2 c1_0 c1_1 c1_2
  refine (S.call (parts_any _)).mono ?_
  clear S
  rintro e w1 ⟨rfl, S, H⟩
  replace atA := atA.hold H
  replace ctA := ctA.hold H
  replace atB := atB.hold H
  replace ctB := ctB.hold H
  clear H
  have c0_0 := S.c 0 0 rfl rfl
  have c0_1 := S.c 0 1 rfl rfl
  have c0_2 := S.c 0 2 rfl rfl
  have c1_0 := S.c 1 0 rfl rfl
  have c1_1 := S.c 1 1 rfl rfl
  have c1_2 := S.c 1 2 rfl rfl
  have H := S.hnew 30 [.bool bA, .slice pA lA KA, .slice qA jA JA, .bool bB, .slice pB lB KB, .slice qB jB JB]
  replace S := S.alloc 30 [.bool bA, .slice pA lA KA, .slice qA jA JA, .bool bB, .slice pB lB KB, .slice qB jB JB] (w1.heap.size)
  replace atA := atA.hold H
  replace ctA := ctA.hold H
  replace atB := atB.hold H
  replace ctB := ctB.hold H
  clear H
  go_wp2_with fail
  clear c0_0 c0_1 c0_2 c1_0 c1_1 c1_2
  refine (S.call (rfit_any _ 2 _ _ _ _ _ _ _ _ (S.lt 2 rfl) (by decide) (rraws2 S 2 rfl HLA.out.1 HLA.out.2 HLB.out.1 HLB.out.2 atA ctA atB ctB HDA.out.1 HDA.out.2 HDB.out.1 HDB.out.2))).mono ?_
  clear S
  rintro e w2 ⟨⟨ok, rfl, hok⟩, S, H⟩
  replace atA := atA.hold H
  replace ctA := ctA.hold H
  replace atB := atB.hold H
  replace ctB := ctB.hold H
  clear H
  have c0_0 := S.c 0 0 rfl rfl
  have c0_1 := S.c 0 1 rfl rfl
  have c0_2 := S.c 0 2 rfl rfl
  have c1_0 := S.c 1 0 rfl rfl
  have c1_1 := S.c 1 1 rfl rfl
  have c1_2 := S.c 1 2 rfl rfl
  cases ok with
  | false =>
    go_wp2_with fail
    exact bodyPost_ret (v := .bool true) (by simp [results, Try.f9, go_sem]) rfl (⟨rfl, S.below⟩)
  | true =>
    have t := hok.out rfl
    obtain ⟨zA, hA, rA, nA, dA⟩ := tried_rat (b := bA) (t 0 (by decide)) HDA.out.1 HDA.out.2 HLA.out.1 HLA.out.2 atA ctA
    have RA := Lib.hid rA
    obtain ⟨zB, hB, rB, nB, dB⟩ := tried_rat (b := bB) (t 1 (by decide)) HDB.out.1 HDB.out.2 HLB.out.1 HLB.out.2 atB ctB
    have RBB := Lib.hid rB
    clear atA ctA atB ctB
    clear t hok rA rB
    obtain ⟨c, _, hc1, hc2, hc3, hc4, hc5⟩ := three_between zA zB
    obtain ⟨zn, hzn⟩ : ∃ z, zA.num + zB.num = z := ⟨_, rfl⟩
    obtain ⟨zd, hzd⟩ : ∃ z, (zA.den : Int) + (zB.den : Int) = z := ⟨_, rfl⟩
    rw [hzn, hzd] at hc2 hc3
    have hbn : zn.natAbs < NB 21 := by rw [← hzn]; exact nbz_add RA.out.1 RBB.out.1
    have hbd : zd.natAbs < NB 21 := by rw [← hzd]; exact nbz_add (by simpa using RA.out.2) (by simpa using RBB.out.2)
    have hd0 : zd ≠ 0 := by have := zA.den_nz; omega
    obtain ⟨zM, hzM⟩ : ∃ z, Rat.divInt zn zd = z := ⟨_, rfl⟩
    obtain ⟨zS, hzS⟩ : ∃ z, zA + zB = z := ⟨_, rfl⟩
    obtain ⟨zH, hzH⟩ : ∃ z, zS * (1 / 2) = z := ⟨_, rfl⟩
    rw [hzM] at hc2 hc3
    rw [hzS, hzH] at hc4 hc5
    have RM := Lib.hid (show RB zM 21 from hzM ▸ rb_divInt hd0 hbn hbd)
    have RS := Lib.hid (show RB zS 41 from hzS ▸ rb_add RA.out RBB.out)
    have RT := Lib.hid rhalf_rb
    have RH := Lib.hid (show RB zH 42 from hzH ▸ rb_mul RS.out RT.out)
    have HC := Lib.hid (And.intro hc1 (And.intro hc2 (And.intro hc3 (And.intro hc4 hc5))))
    have HN := Lib.hid (And.intro hzn hbn)
    have HD := Lib.hid (And.intro hzd (And.intro hbd hd0))
    have HM := Lib.hid hzM.symm
    have HS := Lib.hid hzS
    have HH2 := Lib.hid hzH
    have HW : IntKind.i64.wrap 1 = 1 := by kernel_rfl
    clear hc1 hc2 hc3 hc4 hc5 hzn hzd hbn hbd hd0 hzM hzS hzH HW
    clear c0_0 c0_1 c0_2 c1_0 c1_1 c1_2
    have c0_0 := S.c 0 0 rfl rfl
    have c0_1 := S.c 0 1 rfl rfl
    have c0_2 := S.c 0 2 rfl rfl
    have c1_0 := S.c 1 0 rfl rfl
    have c1_1 := S.c 1 1 rfl rfl
    have c1_2 := S.c 1 2 rfl rfl
    go_wp2_with fail
    clear c0_0 c0_1 c0_2 c1_0 c1_1 c1_2
    refine (S.call (wadd_to ⟨_, _, _, by rw [hA.out], nA⟩ ⟨_, _, _, by rw [hB.out], nB⟩ (rb_max RA.out (by decide)).1 (rb_max RBB.out (by decide)).1 zn HN.out.1 (nb_max HN.out.2 (by decide)))).mono ?_
    clear S
    rintro e w3 ⟨⟨_, rfl, pn, ln, Kn, rfl, nn⟩, S, H⟩
    replace nA := nA.hold H
    replace dA := dA.hold H
    replace nB := nB.hold H
    replace dB := dB.hold H
    clear H
    have c0_0 := S.c 0 0 rfl rfl
    have c0_1 := S.c 0 1 rfl rfl
    have c0_2 := S.c 0 2 rfl rfl
    have c1_0 := S.c 1 0 rfl rfl
    have c1_1 := S.c 1 1 rfl rfl
    have c1_2 := S.c 1 2 rfl rfl
    have H := S.hnew 25 [.bool (negB zn), .slice pn ln Kn]
    replace S := S.alloc 25 [.bool (negB zn), .slice pn ln Kn] (w3.heap.size)
    replace nA := nA.hold H
    replace dA := dA.hold H
    replace nB := nB.hold H
    replace dB := dB.hold H
    replace nn := nn.hold H
    clear H
    clear c0_0 c0_1 c0_2 c1_0 c1_1 c1_2
    have c0_0 := S.c 0 0 rfl rfl
    have c0_1 := S.c 0 1 rfl rfl
    have c0_2 := S.c 0 2 rfl rfl
    have c1_0 := S.c 1 0 rfl rfl
    have c1_1 := S.c 1 1 rfl rfl
    have c1_2 := S.c 1 2 rfl rfl
    go_upto_region 6 with fail
    clear c0_0 c0_1 c0_2 c1_0 c1_1 c1_2
    generalize (.tuple #[.agg #[.bool (negB zn), .slice pn ln Kn], .int .i64 0] : Value) = x1
    generalize (w3.alloc (.cells #[.bool (negB zn), .slice pn ln Kn] 25)) = w4 at S nA dA nB dB nn ⊢
    go_cut [7, 8] (fun s7 s8 wx => ∃ g7 pd ld Kd, s7 = .pointer (some ⟨g7, 0, none⟩) ∧ s8 = .int .i64 0 ∧ St w wx [(w.heap.size, 30, [.bool bA, .slice pA lA KA, .slice qA jA JA]), (w.heap.size + 1, 30, [.bool bB, .slice pB lB KB, .slice qB jB JB]), (w1.heap.size, 30, [.bool bA, .slice pA lA KA, .slice qA jA JA, .bool bB, .slice pB lB KB, .slice qB jB JB]), (w3.heap.size, 25, [.bool (negB zn), .slice pn ln Kn]), (g7, 25, [.bool (negB zd), .slice pd ld Kd])] ∧ IsNat wx (.slice pd ld Kd) zd.natAbs ∧ Hold w4 wx)
    case first =>
      have HH := Hold.drew w4
      replace nA := nA.hold HH
      replace dA := dA.hold HH
      replace nB := nB.hold HH
      replace dB := dB.hold HH
      replace nn := nn.hold HH
      replace S := S.drew
      refine wp_region_held_drew (S := fun W => W.cell? ⟨w.heap.size, 2, none⟩ = some (.slice qA jA JA) ∧ W.cell? ⟨w.heap.size + 1, 2, none⟩ = some (.slice qB jB JB)) (by kernel_rfl) ⟨S.c 0 2 rfl rfl, S.c 1 2 rfl rfl⟩ (fun hS => ?_)
      generalize w4.drew = w5 at S nA dA nB dB nn HH hS ⊢
      refine wpAnyH_take (i := 0) (v := ?_) ((List.getElem?_toArray ..).trans rfl) (by kernel_rfl) (by kernel_rfl) (by kernel_rfl) (fun _ _ _ h => h) (Or.inl ⟨rfl, fun W hW => ?_⟩) hS ?_
      rotate_left
      · obtain ⟨hW0, hW1⟩ := hW; go_simp; try first | rfl | (rw [if_neg (by first | omega | (simp only [ByteArray.size_append]; first | omega | (have h1 : (ByteArray.mk #[47]).size = 1 := rfl; omega)))]; try rfl) | kernel_rfl
      try simp only [Act.put, List.setIfInBounds_toArray, List.set_cons_zero, List.set_cons_succ]
      refine wpAnyH_take (i := 1) (v := ?_) ((List.getElem?_toArray ..).trans rfl) (by kernel_rfl) (by kernel_rfl) (by kernel_rfl) (fun _ _ _ h => h) (Or.inl ⟨rfl, fun W hW => ?_⟩) hS ?_
      rotate_left
      · obtain ⟨hW0, hW1⟩ := hW; go_simp; try first | rfl | (rw [if_neg (by first | omega | (simp only [ByteArray.size_append]; first | omega | (have h1 : (ByteArray.mk #[47]).size = 1 := rfl; omega)))]; try rfl) | kernel_rfl
      try simp only [Act.put, List.setIfInBounds_toArray, List.set_cons_zero, List.set_cons_succ]
      refine wpAnyH_take (i := 3) (v := ?_) ((List.getElem?_toArray ..).trans rfl) (by kernel_rfl) (by kernel_rfl) (by kernel_rfl) (fun _ _ _ h => h) (Or.inl ⟨rfl, fun W hW => ?_⟩) hS ?_
      rotate_left
      · obtain ⟨hW0, hW1⟩ := hW; go_simp; try first | rfl | (rw [if_neg (by first | omega | (simp only [ByteArray.size_append]; first | omega | (have h1 : (ByteArray.mk #[47]).size = 1 := rfl; omega)))]; try rfl) | kernel_rfl
      try simp only [Act.put, List.setIfInBounds_toArray, List.set_cons_zero, List.set_cons_succ]
      refine wpAnyH_take (i := 4) (v := ?_) ((List.getElem?_toArray ..).trans rfl) (by kernel_rfl) (by kernel_rfl) (by kernel_rfl) (fun _ _ _ h => h) (Or.inl ⟨rfl, fun W hW => ?_⟩) hS ?_
      rotate_left
      · obtain ⟨hW0, hW1⟩ := hW; go_simp; try first | rfl | (rw [if_neg (by first | omega | (simp only [ByteArray.size_append]; first | omega | (have h1 : (ByteArray.mk #[47]).size = 1 := rfl; omega)))]; try rfl) | kernel_rfl
      try simp only [Act.put, List.setIfInBounds_toArray, List.set_cons_zero, List.set_cons_succ]
      refine wpAnyH_ready (rs := [2, 10]) (by kernel_rfl) (by simp) (AllReadyH.cons ((List.getElem?_toArray ..).trans rfl) (fun KK hKK => ?_) (AllReadyH.cons ((List.getElem?_toArray ..).trans rfl) (fun KK hKK => ?_) AllReadyH.nil))
      ·
        go_simp
        clear hS
        refine (S.call (wnat_any dA (rb_max RA.out (by decide)).2 (zA.den : Int) rfl)).mono ?_
        clear S
        rintro e w6 ⟨⟨_, rfl, pa, la, Ka, rfl, na⟩, S, H⟩
        replace nA := nA.hold H
        replace dA := dA.hold H
        replace nB := nB.hold H
        replace dB := dB.hold H
        replace nn := nn.hold H
        replace HH := HH.trans H
        clear H
        go_wp2_with fail
        refine hKK.out _ _ ⟨S.c 0 2 rfl rfl, S.c 1 2 rfl rfl⟩ (fun hS => ?_)
        clear hKK KK
        try simp only [Act.put, List.setIfInBounds_toArray, List.set_cons_zero, List.set_cons_succ]
        refine wpAnyH_ready (rs := [5, 10]) (by kernel_rfl) (by simp) (AllReadyH.cons ((List.getElem?_toArray ..).trans rfl) (fun KK hKK => ?_) (AllReadyH.cons ((List.getElem?_toArray ..).trans rfl) (fun KK hKK => ?_) AllReadyH.nil))
        ·
          go_simp
          clear hS
          refine (S.call (wnat_any dB (rb_max RBB.out (by decide)).2 (zB.den : Int) rfl)).mono ?_
          clear S
          rintro e w7 ⟨⟨_, rfl, pb, lb, Kb, rfl, nb⟩, S, H⟩
          replace nA := nA.hold H
          replace dA := dA.hold H
          replace nB := nB.hold H
          replace dB := dB.hold H
          replace nn := nn.hold H
          replace na := na.hold H
          replace HH := HH.trans H
          clear H
          go_wp2_with fail
          refine hKK.out _ _ ⟨S.c 0 2 rfl rfl, S.c 1 2 rfl rfl⟩ (fun hS => ?_)
          clear hKK KK
          try simp only [Act.put, List.setIfInBounds_toArray, List.set_cons_zero, List.set_cons_succ]
          refine wpAnyH_ready (rs := [6, 10]) (by kernel_rfl) (by simp) (AllReadyH.cons ((List.getElem?_toArray ..).trans rfl) (fun KK hKK => ?_) (AllReadyH.cons ((List.getElem?_toArray ..).trans rfl) (fun KK hKK => ?_) AllReadyH.nil))
          ·
            go_simp
            clear hS
            refine (S.call (wadd_to ⟨_, _, _, rfl, na⟩ ⟨_, _, _, rfl, nb⟩ (rb_max RA.out (by decide)).2 (rb_max RBB.out (by decide)).2 zd HD.out.1 (nb_max HD.out.2.1 (by decide)))).mono ?_
            clear S
            rintro e w8 ⟨⟨_, rfl, pd, ld, Kd, rfl, nd⟩, S, H⟩
            replace nA := nA.hold H
            replace dA := dA.hold H
            replace nB := nB.hold H
            replace dB := dB.hold H
            replace nn := nn.hold H
            replace na := na.hold H
            replace nb := nb.hold H
            replace HH := HH.trans H
            clear H
            go_wp2_with fail
            refine hKK.out _ _ ⟨S.c 0 2 rfl rfl, S.c 1 2 rfl rfl⟩ (fun hS => ?_)
            clear hKK KK
            try simp only [Act.put, List.setIfInBounds_toArray, List.set_cons_zero, List.set_cons_succ]
            refine wpAnyH_take (i := 7) (v := ?_) ((List.getElem?_toArray ..).trans rfl) (by kernel_rfl) (by kernel_rfl) (by kernel_rfl) (fun _ _ _ h => h) (Or.inl ⟨rfl, fun W hW => ?_⟩) hS ?_
            rotate_left
            · obtain ⟨hW0, hW1⟩ := hW; go_simp; try first | rfl | (rw [if_neg (by first | omega | (simp only [ByteArray.size_append]; first | omega | (have h1 : (ByteArray.mk #[47]).size = 1 := rfl; omega)))]; try rfl) | kernel_rfl
            try simp only [Act.put, List.setIfInBounds_toArray, List.set_cons_zero, List.set_cons_succ]
            refine wpAnyH_take (i := 8) (v := ?_) ((List.getElem?_toArray ..).trans rfl) (by kernel_rfl) (by kernel_rfl) (by kernel_rfl) (fun _ _ _ h => h) (Or.inl ⟨rfl, fun W hW => ?_⟩) hS ?_
            rotate_left
            · obtain ⟨hW0, hW1⟩ := hW; go_simp; try first | rfl | (rw [if_neg (by first | omega | (simp only [ByteArray.size_append]; first | omega | (have h1 : (ByteArray.mk #[47]).size = 1 := rfl; omega)))]; try rfl) | kernel_rfl
            try simp only [Act.put, List.setIfInBounds_toArray, List.set_cons_zero, List.set_cons_succ]
            refine wpAnyH_take (i := 9) (v := ?_) ((List.getElem?_toArray ..).trans rfl) (by kernel_rfl) (by kernel_rfl) (by kernel_rfl) (fun _ _ _ h => h) (Or.inl ⟨rfl, fun W hW => ?_⟩) hS ?_
            rotate_left
            · obtain ⟨hW0, hW1⟩ := hW; go_simp; try first | rfl | (rw [if_neg (by first | omega | (simp only [ByteArray.size_append]; first | omega | (have h1 : (ByteArray.mk #[47]).size = 1 := rfl; omega)))]; try rfl) | kernel_rfl
            try simp only [Act.put, List.setIfInBounds_toArray, List.set_cons_zero, List.set_cons_succ]
            refine wpAnyH_ready (rs := [10]) (by kernel_rfl) (by simp) (AllReadyH.cons ((List.getElem?_toArray ..).trans rfl) (fun KK hKK => ?_) AllReadyH.nil)
            go_simp
            clear hS
            have H := S.hnew 25 [.bool false, .slice none 0 0]
            replace S := S.alloc 25 [.bool false, .slice none 0 0] (w8.heap.size)
            replace nA := nA.hold H
            replace dA := dA.hold H
            replace nB := nB.hold H
            replace dB := dB.hold H
            replace nn := nn.hold H
            replace na := na.hold H
            replace nb := nb.hold H
            replace nd := nd.hold H
            replace HH := HH.trans H
            clear H
            refine hKK.out _ _ ⟨S.c 0 2 rfl rfl, S.c 1 2 rfl rfl⟩ (fun hS => ?_)
            generalize (w8.alloc (.cells #[.bool false, .slice none 0 0] 25)) = w9 at S nA dA nB dB nn na nb nd HH hS ⊢
            clear hKK KK
            try simp only [Act.put, List.setIfInBounds_toArray, List.set_cons_zero, List.set_cons_succ]
            refine wpAnyH_ready (rs := [11]) (by kernel_rfl) (by simp) (AllReadyH.cons ((List.getElem?_toArray ..).trans rfl) (fun KK hKK => ?_) AllReadyH.nil)
            have c0 := S.c 4 0 rfl rfl
            have f0 := S.f 4 0 rfl
            have c1 := S.c 4 1 rfl rfl
            have f1 := S.f 4 1 rfl
            go_simp
            clear hS c0 f0 c1 f1
            have H := S.hset 4 0 (.bool (negB zd)) rfl rfl (by intro q n e; cases e)
            replace S := S.set 4 0 (.bool (negB zd)) rfl
            replace nA := nA.hold H
            replace dA := dA.hold H
            replace nB := nB.hold H
            replace dB := dB.hold H
            replace nn := nn.hold H
            replace na := na.hold H
            replace nb := nb.hold H
            replace nd := nd.hold H
            replace HH := HH.trans H
            clear H
            have H := S.hset 4 1 (.slice pd ld Kd) rfl rfl (by intro q n e; cases e)
            replace S := S.set 4 1 (.slice pd ld Kd) rfl
            replace nA := nA.hold H
            replace dA := dA.hold H
            replace nB := nB.hold H
            replace dB := dB.hold H
            replace nn := nn.hold H
            replace na := na.hold H
            replace nb := nb.hold H
            replace nd := nd.hold H
            replace HH := HH.trans H
            clear H
            refine hKK.out _ _ ⟨S.c 0 2 rfl rfl, S.c 1 2 rfl rfl⟩ (fun hS => ?_)
            generalize ((w9.setCell ⟨w8.heap.size, 0, none⟩ (.bool (negB zd))).setCell ⟨w8.heap.size, 1, none⟩ (.slice pd ld Kd)) = w10 at S nA dA nB dB nn na nb nd HH hS ⊢
            clear hKK KK
            try simp only [Act.put, List.setIfInBounds_toArray, List.set_cons_zero, List.set_cons_succ]
            refine wpAnyH_ready (rs := [12]) (by kernel_rfl) (by simp) (AllReadyH.cons ((List.getElem?_toArray ..).trans rfl) (fun KK hKK => ?_) AllReadyH.nil)
            go_simp
            refine hKK.out _ _ hS (fun hS => ?_)
            clear hKK KK
            try simp only [Act.put, List.setIfInBounds_toArray, List.set_cons_zero, List.set_cons_succ]
            refine wpAnyH_done (by kernel_rfl) ?_ _
            go_wp2_with fail
            go_meet
            case rel => exact ⟨w8.heap.size, pd, ld, Kd, rfl, rfl, S, nd, HH⟩
          ·
            go_simp
            clear hS
            have H := S.hnew 25 [.bool false, .slice none 0 0]
            replace S := S.alloc 25 [.bool false, .slice none 0 0] (w7.heap.size)
            replace nA := nA.hold H
            replace dA := dA.hold H
            replace nB := nB.hold H
            replace dB := dB.hold H
            replace nn := nn.hold H
            replace na := na.hold H
            replace nb := nb.hold H
            replace HH := HH.trans H
            clear H
            refine hKK.out _ _ ⟨S.c 0 2 rfl rfl, S.c 1 2 rfl rfl⟩ (fun hS => ?_)
            generalize (w7.alloc (.cells #[.bool false, .slice none 0 0] 25)) = w11 at S nA dA nB dB nn na nb HH hS ⊢
            clear hKK KK
            try simp only [Act.put, List.setIfInBounds_toArray, List.set_cons_zero, List.set_cons_succ]
            refine wpAnyH_ready (rs := [6]) (by kernel_rfl) (by simp) (AllReadyH.cons ((List.getElem?_toArray ..).trans rfl) (fun KK hKK => ?_) AllReadyH.nil)
            go_simp
            clear hS
            refine (S.call (wadd_to ⟨_, _, _, rfl, na⟩ ⟨_, _, _, rfl, nb⟩ (rb_max RA.out (by decide)).2 (rb_max RBB.out (by decide)).2 zd HD.out.1 (nb_max HD.out.2.1 (by decide)))).mono ?_
            clear S
            rintro e w12 ⟨⟨_, rfl, pd, ld, Kd, rfl, nd⟩, S, H⟩
            replace nA := nA.hold H
            replace dA := dA.hold H
            replace nB := nB.hold H
            replace dB := dB.hold H
            replace nn := nn.hold H
            replace na := na.hold H
            replace nb := nb.hold H
            replace HH := HH.trans H
            clear H
            go_wp2_with fail
            refine hKK.out _ _ ⟨S.c 0 2 rfl rfl, S.c 1 2 rfl rfl⟩ (fun hS => ?_)
            clear hKK KK
            try simp only [Act.put, List.setIfInBounds_toArray, List.set_cons_zero, List.set_cons_succ]
            refine wpAnyH_take (i := 7) (v := ?_) ((List.getElem?_toArray ..).trans rfl) (by kernel_rfl) (by kernel_rfl) (by kernel_rfl) (fun _ _ _ h => h) (Or.inl ⟨rfl, fun W hW => ?_⟩) hS ?_
            rotate_left
            · obtain ⟨hW0, hW1⟩ := hW; go_simp; try first | rfl | (rw [if_neg (by first | omega | (simp only [ByteArray.size_append]; first | omega | (have h1 : (ByteArray.mk #[47]).size = 1 := rfl; omega)))]; try rfl) | kernel_rfl
            try simp only [Act.put, List.setIfInBounds_toArray, List.set_cons_zero, List.set_cons_succ]
            refine wpAnyH_take (i := 8) (v := ?_) ((List.getElem?_toArray ..).trans rfl) (by kernel_rfl) (by kernel_rfl) (by kernel_rfl) (fun _ _ _ h => h) (Or.inl ⟨rfl, fun W hW => ?_⟩) hS ?_
            rotate_left
            · obtain ⟨hW0, hW1⟩ := hW; go_simp; try first | rfl | (rw [if_neg (by first | omega | (simp only [ByteArray.size_append]; first | omega | (have h1 : (ByteArray.mk #[47]).size = 1 := rfl; omega)))]; try rfl) | kernel_rfl
            try simp only [Act.put, List.setIfInBounds_toArray, List.set_cons_zero, List.set_cons_succ]
            refine wpAnyH_take (i := 9) (v := ?_) ((List.getElem?_toArray ..).trans rfl) (by kernel_rfl) (by kernel_rfl) (by kernel_rfl) (fun _ _ _ h => h) (Or.inl ⟨rfl, fun W hW => ?_⟩) hS ?_
            rotate_left
            · obtain ⟨hW0, hW1⟩ := hW; go_simp; try first | rfl | (rw [if_neg (by first | omega | (simp only [ByteArray.size_append]; first | omega | (have h1 : (ByteArray.mk #[47]).size = 1 := rfl; omega)))]; try rfl) | kernel_rfl
            try simp only [Act.put, List.setIfInBounds_toArray, List.set_cons_zero, List.set_cons_succ]
            refine wpAnyH_ready (rs := [11]) (by kernel_rfl) (by simp) (AllReadyH.cons ((List.getElem?_toArray ..).trans rfl) (fun KK hKK => ?_) AllReadyH.nil)
            have c0 := S.c 4 0 rfl rfl
            have f0 := S.f 4 0 rfl
            have c1 := S.c 4 1 rfl rfl
            have f1 := S.f 4 1 rfl
            go_simp
            clear hS c0 f0 c1 f1
            have H := S.hset 4 0 (.bool (negB zd)) rfl rfl (by intro q n e; cases e)
            replace S := S.set 4 0 (.bool (negB zd)) rfl
            replace nA := nA.hold H
            replace dA := dA.hold H
            replace nB := nB.hold H
            replace dB := dB.hold H
            replace nn := nn.hold H
            replace na := na.hold H
            replace nb := nb.hold H
            replace nd := nd.hold H
            replace HH := HH.trans H
            clear H
            have H := S.hset 4 1 (.slice pd ld Kd) rfl rfl (by intro q n e; cases e)
            replace S := S.set 4 1 (.slice pd ld Kd) rfl
            replace nA := nA.hold H
            replace dA := dA.hold H
            replace nB := nB.hold H
            replace dB := dB.hold H
            replace nn := nn.hold H
            replace na := na.hold H
            replace nb := nb.hold H
            replace nd := nd.hold H
            replace HH := HH.trans H
            clear H
            refine hKK.out _ _ ⟨S.c 0 2 rfl rfl, S.c 1 2 rfl rfl⟩ (fun hS => ?_)
            generalize ((w12.setCell ⟨w7.heap.size, 0, none⟩ (.bool (negB zd))).setCell ⟨w7.heap.size, 1, none⟩ (.slice pd ld Kd)) = w13 at S nA dA nB dB nn na nb nd HH hS ⊢
            clear hKK KK
            try simp only [Act.put, List.setIfInBounds_toArray, List.set_cons_zero, List.set_cons_succ]
            refine wpAnyH_ready (rs := [12]) (by kernel_rfl) (by simp) (AllReadyH.cons ((List.getElem?_toArray ..).trans rfl) (fun KK hKK => ?_) AllReadyH.nil)
            go_simp
            refine hKK.out _ _ hS (fun hS => ?_)
            clear hKK KK
            try simp only [Act.put, List.setIfInBounds_toArray, List.set_cons_zero, List.set_cons_succ]
            refine wpAnyH_done (by kernel_rfl) ?_ _
            go_wp2_with fail
            go_meet
            case rel => exact ⟨w7.heap.size, pd, ld, Kd, rfl, rfl, S, nd, HH⟩
        ·
          go_simp
          clear hS
          have H := S.hnew 25 [.bool false, .slice none 0 0]
          replace S := S.alloc 25 [.bool false, .slice none 0 0] (w6.heap.size)
          replace nA := nA.hold H
          replace dA := dA.hold H
          replace nB := nB.hold H
          replace dB := dB.hold H
          replace nn := nn.hold H
          replace na := na.hold H
          replace HH := HH.trans H
          clear H
          refine hKK.out _ _ ⟨S.c 0 2 rfl rfl, S.c 1 2 rfl rfl⟩ (fun hS => ?_)
          generalize (w6.alloc (.cells #[.bool false, .slice none 0 0] 25)) = w14 at S nA dA nB dB nn na HH hS ⊢
          clear hKK KK
          try simp only [Act.put, List.setIfInBounds_toArray, List.set_cons_zero, List.set_cons_succ]
          refine wpAnyH_ready (rs := [5]) (by kernel_rfl) (by simp) (AllReadyH.cons ((List.getElem?_toArray ..).trans rfl) (fun KK hKK => ?_) AllReadyH.nil)
          go_simp
          clear hS
          refine (S.call (wnat_any dB (rb_max RBB.out (by decide)).2 (zB.den : Int) rfl)).mono ?_
          clear S
          rintro e w15 ⟨⟨_, rfl, pb, lb, Kb, rfl, nb⟩, S, H⟩
          replace nA := nA.hold H
          replace dA := dA.hold H
          replace nB := nB.hold H
          replace dB := dB.hold H
          replace nn := nn.hold H
          replace na := na.hold H
          replace HH := HH.trans H
          clear H
          go_wp2_with fail
          refine hKK.out _ _ ⟨S.c 0 2 rfl rfl, S.c 1 2 rfl rfl⟩ (fun hS => ?_)
          clear hKK KK
          try simp only [Act.put, List.setIfInBounds_toArray, List.set_cons_zero, List.set_cons_succ]
          refine wpAnyH_ready (rs := [6]) (by kernel_rfl) (by simp) (AllReadyH.cons ((List.getElem?_toArray ..).trans rfl) (fun KK hKK => ?_) AllReadyH.nil)
          go_simp
          clear hS
          refine (S.call (wadd_to ⟨_, _, _, rfl, na⟩ ⟨_, _, _, rfl, nb⟩ (rb_max RA.out (by decide)).2 (rb_max RBB.out (by decide)).2 zd HD.out.1 (nb_max HD.out.2.1 (by decide)))).mono ?_
          clear S
          rintro e w16 ⟨⟨_, rfl, pd, ld, Kd, rfl, nd⟩, S, H⟩
          replace nA := nA.hold H
          replace dA := dA.hold H
          replace nB := nB.hold H
          replace dB := dB.hold H
          replace nn := nn.hold H
          replace na := na.hold H
          replace nb := nb.hold H
          replace HH := HH.trans H
          clear H
          go_wp2_with fail
          refine hKK.out _ _ ⟨S.c 0 2 rfl rfl, S.c 1 2 rfl rfl⟩ (fun hS => ?_)
          clear hKK KK
          try simp only [Act.put, List.setIfInBounds_toArray, List.set_cons_zero, List.set_cons_succ]
          refine wpAnyH_take (i := 7) (v := ?_) ((List.getElem?_toArray ..).trans rfl) (by kernel_rfl) (by kernel_rfl) (by kernel_rfl) (fun _ _ _ h => h) (Or.inl ⟨rfl, fun W hW => ?_⟩) hS ?_
          rotate_left
          · obtain ⟨hW0, hW1⟩ := hW; go_simp; try first | rfl | (rw [if_neg (by first | omega | (simp only [ByteArray.size_append]; first | omega | (have h1 : (ByteArray.mk #[47]).size = 1 := rfl; omega)))]; try rfl) | kernel_rfl
          try simp only [Act.put, List.setIfInBounds_toArray, List.set_cons_zero, List.set_cons_succ]
          refine wpAnyH_take (i := 8) (v := ?_) ((List.getElem?_toArray ..).trans rfl) (by kernel_rfl) (by kernel_rfl) (by kernel_rfl) (fun _ _ _ h => h) (Or.inl ⟨rfl, fun W hW => ?_⟩) hS ?_
          rotate_left
          · obtain ⟨hW0, hW1⟩ := hW; go_simp; try first | rfl | (rw [if_neg (by first | omega | (simp only [ByteArray.size_append]; first | omega | (have h1 : (ByteArray.mk #[47]).size = 1 := rfl; omega)))]; try rfl) | kernel_rfl
          try simp only [Act.put, List.setIfInBounds_toArray, List.set_cons_zero, List.set_cons_succ]
          refine wpAnyH_take (i := 9) (v := ?_) ((List.getElem?_toArray ..).trans rfl) (by kernel_rfl) (by kernel_rfl) (by kernel_rfl) (fun _ _ _ h => h) (Or.inl ⟨rfl, fun W hW => ?_⟩) hS ?_
          rotate_left
          · obtain ⟨hW0, hW1⟩ := hW; go_simp; try first | rfl | (rw [if_neg (by first | omega | (simp only [ByteArray.size_append]; first | omega | (have h1 : (ByteArray.mk #[47]).size = 1 := rfl; omega)))]; try rfl) | kernel_rfl
          try simp only [Act.put, List.setIfInBounds_toArray, List.set_cons_zero, List.set_cons_succ]
          refine wpAnyH_ready (rs := [11]) (by kernel_rfl) (by simp) (AllReadyH.cons ((List.getElem?_toArray ..).trans rfl) (fun KK hKK => ?_) AllReadyH.nil)
          have c0 := S.c 4 0 rfl rfl
          have f0 := S.f 4 0 rfl
          have c1 := S.c 4 1 rfl rfl
          have f1 := S.f 4 1 rfl
          go_simp
          clear hS c0 f0 c1 f1
          have H := S.hset 4 0 (.bool (negB zd)) rfl rfl (by intro q n e; cases e)
          replace S := S.set 4 0 (.bool (negB zd)) rfl
          replace nA := nA.hold H
          replace dA := dA.hold H
          replace nB := nB.hold H
          replace dB := dB.hold H
          replace nn := nn.hold H
          replace na := na.hold H
          replace nb := nb.hold H
          replace nd := nd.hold H
          replace HH := HH.trans H
          clear H
          have H := S.hset 4 1 (.slice pd ld Kd) rfl rfl (by intro q n e; cases e)
          replace S := S.set 4 1 (.slice pd ld Kd) rfl
          replace nA := nA.hold H
          replace dA := dA.hold H
          replace nB := nB.hold H
          replace dB := dB.hold H
          replace nn := nn.hold H
          replace na := na.hold H
          replace nb := nb.hold H
          replace nd := nd.hold H
          replace HH := HH.trans H
          clear H
          refine hKK.out _ _ ⟨S.c 0 2 rfl rfl, S.c 1 2 rfl rfl⟩ (fun hS => ?_)
          generalize ((w16.setCell ⟨w6.heap.size, 0, none⟩ (.bool (negB zd))).setCell ⟨w6.heap.size, 1, none⟩ (.slice pd ld Kd)) = w17 at S nA dA nB dB nn na nb nd HH hS ⊢
          clear hKK KK
          try simp only [Act.put, List.setIfInBounds_toArray, List.set_cons_zero, List.set_cons_succ]
          refine wpAnyH_ready (rs := [12]) (by kernel_rfl) (by simp) (AllReadyH.cons ((List.getElem?_toArray ..).trans rfl) (fun KK hKK => ?_) AllReadyH.nil)
          go_simp
          refine hKK.out _ _ hS (fun hS => ?_)
          clear hKK KK
          try simp only [Act.put, List.setIfInBounds_toArray, List.set_cons_zero, List.set_cons_succ]
          refine wpAnyH_done (by kernel_rfl) ?_ _
          go_wp2_with fail
          go_meet
          case rel => exact ⟨w6.heap.size, pd, ld, Kd, rfl, rfl, S, nd, HH⟩
      ·
        go_simp
        clear hS
        have H := S.hnew 25 [.bool false, .slice none 0 0]
        replace S := S.alloc 25 [.bool false, .slice none 0 0] (w5.heap.size)
        replace nA := nA.hold H
        replace dA := dA.hold H
        replace nB := nB.hold H
        replace dB := dB.hold H
        replace nn := nn.hold H
        replace HH := HH.trans H
        clear H
        refine hKK.out _ _ ⟨S.c 0 2 rfl rfl, S.c 1 2 rfl rfl⟩ (fun hS => ?_)
        generalize (w5.alloc (.cells #[.bool false, .slice none 0 0] 25)) = w18 at S nA dA nB dB nn HH hS ⊢
        clear hKK KK
        try simp only [Act.put, List.setIfInBounds_toArray, List.set_cons_zero, List.set_cons_succ]
        refine wpAnyH_ready (rs := [2]) (by kernel_rfl) (by simp) (AllReadyH.cons ((List.getElem?_toArray ..).trans rfl) (fun KK hKK => ?_) AllReadyH.nil)
        go_simp
        clear hS
        refine (S.call (wnat_any dA (rb_max RA.out (by decide)).2 (zA.den : Int) rfl)).mono ?_
        clear S
        rintro e w19 ⟨⟨_, rfl, pa, la, Ka, rfl, na⟩, S, H⟩
        replace nA := nA.hold H
        replace dA := dA.hold H
        replace nB := nB.hold H
        replace dB := dB.hold H
        replace nn := nn.hold H
        replace HH := HH.trans H
        clear H
        go_wp2_with fail
        refine hKK.out _ _ ⟨S.c 0 2 rfl rfl, S.c 1 2 rfl rfl⟩ (fun hS => ?_)
        clear hKK KK
        try simp only [Act.put, List.setIfInBounds_toArray, List.set_cons_zero, List.set_cons_succ]
        refine wpAnyH_ready (rs := [5]) (by kernel_rfl) (by simp) (AllReadyH.cons ((List.getElem?_toArray ..).trans rfl) (fun KK hKK => ?_) AllReadyH.nil)
        go_simp
        clear hS
        refine (S.call (wnat_any dB (rb_max RBB.out (by decide)).2 (zB.den : Int) rfl)).mono ?_
        clear S
        rintro e w20 ⟨⟨_, rfl, pb, lb, Kb, rfl, nb⟩, S, H⟩
        replace nA := nA.hold H
        replace dA := dA.hold H
        replace nB := nB.hold H
        replace dB := dB.hold H
        replace nn := nn.hold H
        replace na := na.hold H
        replace HH := HH.trans H
        clear H
        go_wp2_with fail
        refine hKK.out _ _ ⟨S.c 0 2 rfl rfl, S.c 1 2 rfl rfl⟩ (fun hS => ?_)
        clear hKK KK
        try simp only [Act.put, List.setIfInBounds_toArray, List.set_cons_zero, List.set_cons_succ]
        refine wpAnyH_ready (rs := [6]) (by kernel_rfl) (by simp) (AllReadyH.cons ((List.getElem?_toArray ..).trans rfl) (fun KK hKK => ?_) AllReadyH.nil)
        go_simp
        clear hS
        refine (S.call (wadd_to ⟨_, _, _, rfl, na⟩ ⟨_, _, _, rfl, nb⟩ (rb_max RA.out (by decide)).2 (rb_max RBB.out (by decide)).2 zd HD.out.1 (nb_max HD.out.2.1 (by decide)))).mono ?_
        clear S
        rintro e w21 ⟨⟨_, rfl, pd, ld, Kd, rfl, nd⟩, S, H⟩
        replace nA := nA.hold H
        replace dA := dA.hold H
        replace nB := nB.hold H
        replace dB := dB.hold H
        replace nn := nn.hold H
        replace na := na.hold H
        replace nb := nb.hold H
        replace HH := HH.trans H
        clear H
        go_wp2_with fail
        refine hKK.out _ _ ⟨S.c 0 2 rfl rfl, S.c 1 2 rfl rfl⟩ (fun hS => ?_)
        clear hKK KK
        try simp only [Act.put, List.setIfInBounds_toArray, List.set_cons_zero, List.set_cons_succ]
        refine wpAnyH_take (i := 7) (v := ?_) ((List.getElem?_toArray ..).trans rfl) (by kernel_rfl) (by kernel_rfl) (by kernel_rfl) (fun _ _ _ h => h) (Or.inl ⟨rfl, fun W hW => ?_⟩) hS ?_
        rotate_left
        · obtain ⟨hW0, hW1⟩ := hW; go_simp; try first | rfl | (rw [if_neg (by first | omega | (simp only [ByteArray.size_append]; first | omega | (have h1 : (ByteArray.mk #[47]).size = 1 := rfl; omega)))]; try rfl) | kernel_rfl
        try simp only [Act.put, List.setIfInBounds_toArray, List.set_cons_zero, List.set_cons_succ]
        refine wpAnyH_take (i := 8) (v := ?_) ((List.getElem?_toArray ..).trans rfl) (by kernel_rfl) (by kernel_rfl) (by kernel_rfl) (fun _ _ _ h => h) (Or.inl ⟨rfl, fun W hW => ?_⟩) hS ?_
        rotate_left
        · obtain ⟨hW0, hW1⟩ := hW; go_simp; try first | rfl | (rw [if_neg (by first | omega | (simp only [ByteArray.size_append]; first | omega | (have h1 : (ByteArray.mk #[47]).size = 1 := rfl; omega)))]; try rfl) | kernel_rfl
        try simp only [Act.put, List.setIfInBounds_toArray, List.set_cons_zero, List.set_cons_succ]
        refine wpAnyH_take (i := 9) (v := ?_) ((List.getElem?_toArray ..).trans rfl) (by kernel_rfl) (by kernel_rfl) (by kernel_rfl) (fun _ _ _ h => h) (Or.inl ⟨rfl, fun W hW => ?_⟩) hS ?_
        rotate_left
        · obtain ⟨hW0, hW1⟩ := hW; go_simp; try first | rfl | (rw [if_neg (by first | omega | (simp only [ByteArray.size_append]; first | omega | (have h1 : (ByteArray.mk #[47]).size = 1 := rfl; omega)))]; try rfl) | kernel_rfl
        try simp only [Act.put, List.setIfInBounds_toArray, List.set_cons_zero, List.set_cons_succ]
        refine wpAnyH_ready (rs := [11]) (by kernel_rfl) (by simp) (AllReadyH.cons ((List.getElem?_toArray ..).trans rfl) (fun KK hKK => ?_) AllReadyH.nil)
        have c0 := S.c 4 0 rfl rfl
        have f0 := S.f 4 0 rfl
        have c1 := S.c 4 1 rfl rfl
        have f1 := S.f 4 1 rfl
        go_simp
        clear hS c0 f0 c1 f1
        have H := S.hset 4 0 (.bool (negB zd)) rfl rfl (by intro q n e; cases e)
        replace S := S.set 4 0 (.bool (negB zd)) rfl
        replace nA := nA.hold H
        replace dA := dA.hold H
        replace nB := nB.hold H
        replace dB := dB.hold H
        replace nn := nn.hold H
        replace na := na.hold H
        replace nb := nb.hold H
        replace nd := nd.hold H
        replace HH := HH.trans H
        clear H
        have H := S.hset 4 1 (.slice pd ld Kd) rfl rfl (by intro q n e; cases e)
        replace S := S.set 4 1 (.slice pd ld Kd) rfl
        replace nA := nA.hold H
        replace dA := dA.hold H
        replace nB := nB.hold H
        replace dB := dB.hold H
        replace nn := nn.hold H
        replace na := na.hold H
        replace nb := nb.hold H
        replace nd := nd.hold H
        replace HH := HH.trans H
        clear H
        refine hKK.out _ _ ⟨S.c 0 2 rfl rfl, S.c 1 2 rfl rfl⟩ (fun hS => ?_)
        generalize ((w21.setCell ⟨w5.heap.size, 0, none⟩ (.bool (negB zd))).setCell ⟨w5.heap.size, 1, none⟩ (.slice pd ld Kd)) = w22 at S nA dA nB dB nn na nb nd HH hS ⊢
        clear hKK KK
        try simp only [Act.put, List.setIfInBounds_toArray, List.set_cons_zero, List.set_cons_succ]
        refine wpAnyH_ready (rs := [12]) (by kernel_rfl) (by simp) (AllReadyH.cons ((List.getElem?_toArray ..).trans rfl) (fun KK hKK => ?_) AllReadyH.nil)
        go_simp
        refine hKK.out _ _ hS (fun hS => ?_)
        clear hKK KK
        try simp only [Act.put, List.setIfInBounds_toArray, List.set_cons_zero, List.set_cons_succ]
        refine wpAnyH_done (by kernel_rfl) ?_ _
        go_wp2_with fail
        go_meet
        case rel => exact ⟨w5.heap.size, pd, ld, Kd, rfl, rfl, S, nd, HH⟩
    case rest =>
      obtain ⟨g7, pd, ld, Kd, rfl, rfl, S, nd, HH⟩ := hcut
      obtain ⟨w23, rfl⟩ : ∃ W : World, W = wc := ⟨_, rfl⟩
      replace nA := nA.hold HH
      replace dA := dA.hold HH
      replace nB := nB.hold HH
      replace dB := dB.hold HH
      replace nn := nn.hold HH
      clear HH
      have c3_0 := S.c 3 0 rfl rfl
      have c3_1 := S.c 3 1 rfl rfl
      have c4_0 := S.c 4 0 rfl rfl
      have c4_1 := S.c 4 1 rfl rfl
      go_wp2_with fail
      clear c3_0 c3_1 c4_0 c4_1
      refine (S.call (rmake_any ⟨_, _, _, rfl, nn⟩ ⟨_, _, _, rfl, nd⟩ (nb_max HN.out.2 (by decide)) (nb_max HD.out.2.1 (by decide)) HD.out.2.2 zM HM.out)).mono ?_
      clear S
      rintro e w24 ⟨⟨_, rfl, bM, pM, lM, KM, qM, jM, JM, rfl, hM, nM, dM⟩, S, H⟩
      replace nA := nA.hold H
      replace dA := dA.hold H
      replace nB := nB.hold H
      replace dB := dB.hold H
      replace nn := nn.hold H
      replace nd := nd.hold H
      clear H
      have c3_0 := S.c 3 0 rfl rfl
      have c3_1 := S.c 3 1 rfl rfl
      have c4_0 := S.c 4 0 rfl rfl
      have c4_1 := S.c 4 1 rfl rfl
      have H := S.hnew 30 [.bool bM, .slice pM lM KM, .slice qM jM JM]
      replace S := S.alloc 30 [.bool bM, .slice pM lM KM, .slice qM jM JM] (w24.heap.size)
      replace nA := nA.hold H
      replace dA := dA.hold H
      replace nB := nB.hold H
      replace dB := dB.hold H
      replace nn := nn.hold H
      replace nd := nd.hold H
      replace nM := nM.hold H
      replace dM := dM.hold H
      clear H
      clear c3_0 c3_1 c4_0 c4_1
      have c0_0 := S.c 0 0 rfl rfl
      have c0_1 := S.c 0 1 rfl rfl
      have c0_2 := S.c 0 2 rfl rfl
      have c1_0 := S.c 1 0 rfl rfl
      have c1_1 := S.c 1 1 rfl rfl
      have c1_2 := S.c 1 2 rfl rfl
      go_wp2_with fail
      generalize (.tuple #[.agg #[.bool bM, .slice pM lM KM, .slice qM jM JM], .int .i64 0] : Value) = g2
      clear c0_0 c0_1 c0_2 c1_0 c1_1 c1_2
      refine (S.call (radd_any ⟨bA, pA, lA, KA, qA, jA, JA, rfl, hA, nA, dA⟩ ⟨bB, pB, lB, KB, qB, jB, JB, rfl, hB, nB, dB⟩ RA.out RBB.out (by decide) zS HS.out)).mono ?_
      clear S
      rintro e w25 ⟨⟨_, rfl, bS, pS, lS, KS, qS, jS, JS, rfl, hS, nS, dS⟩, S, H⟩
      replace nA := nA.hold H
      replace dA := dA.hold H
      replace nB := nB.hold H
      replace dB := dB.hold H
      replace nn := nn.hold H
      replace nd := nd.hold H
      replace nM := nM.hold H
      replace dM := dM.hold H
      clear H
      have c0_0 := S.c 0 0 rfl rfl
      have c0_1 := S.c 0 1 rfl rfl
      have c0_2 := S.c 0 2 rfl rfl
      have c1_0 := S.c 1 0 rfl rfl
      have c1_1 := S.c 1 1 rfl rfl
      have c1_2 := S.c 1 2 rfl rfl
      have H := S.hnew 30 [.bool bS, .slice pS lS KS, .slice qS jS JS]
      replace S := S.alloc 30 [.bool bS, .slice pS lS KS, .slice qS jS JS] (w25.heap.size)
      replace nA := nA.hold H
      replace dA := dA.hold H
      replace nB := nB.hold H
      replace dB := dB.hold H
      replace nn := nn.hold H
      replace nd := nd.hold H
      replace nM := nM.hold H
      replace dM := dM.hold H
      replace nS := nS.hold H
      replace dS := dS.hold H
      clear H
      clear c0_0 c0_1 c0_2 c1_0 c1_1 c1_2
      have c6_0 := S.c 6 0 rfl rfl
      have c6_1 := S.c 6 1 rfl rfl
      have c6_2 := S.c 6 2 rfl rfl
      go_upto_region 9 with fail
      clear c6_0 c6_1 c6_2
      generalize (.tuple #[.agg #[.bool bS, .slice pS lS KS, .slice qS jS JS], .int .i64 0] : Value) = x3
      generalize (w25.alloc (.cells #[.bool bS, .slice pS lS KS, .slice qS jS JS] 30)) = w26 at S nA dA nB dB nn nd nM dM nS dS ⊢
      go_cut [13, 14] (fun s13 s14 wx => ∃ g13 bH pH lH KH qH jH JH, s13 = .pointer (some ⟨g13, 0, none⟩) ∧ s14 = .int .i64 0 ∧ St w wx [(w.heap.size, 30, [.bool bA, .slice pA lA KA, .slice qA jA JA]), (w.heap.size + 1, 30, [.bool bB, .slice pB lB KB, .slice qB jB JB]), (w1.heap.size, 30, [.bool bA, .slice pA lA KA, .slice qA jA JA, .bool bB, .slice pB lB KB, .slice qB jB JB]), (w3.heap.size, 25, [.bool (negB zn), .slice pn ln Kn]), (g7, 25, [.bool (negB zd), .slice pd ld Kd]), (w24.heap.size, 30, [.bool bM, .slice pM lM KM, .slice qM jM JM]), (w25.heap.size, 30, [.bool bS, .slice pS lS KS, .slice qS jS JS]), (g13, 30, [.bool bH, .slice pH lH KH, .slice qH jH JH])] ∧ Hid (negB zH.num = bH) ∧ IsNat wx (.slice pH lH KH) zH.num.natAbs ∧ IsNat wx (.slice qH jH JH) zH.den ∧ Hold w26 wx)
      case first =>
        have HH := Hold.drew w26
        replace nA := nA.hold HH
        replace dA := dA.hold HH
        replace nB := nB.hold HH
        replace dB := dB.hold HH
        replace nn := nn.hold HH
        replace nd := nd.hold HH
        replace nM := nM.hold HH
        replace dM := dM.hold HH
        replace nS := nS.hold HH
        replace dS := dS.hold HH
        replace S := S.drew
        refine wp_region_held_drew (S := fun W => W.cell? ⟨w25.heap.size, 0, none⟩ = some (.bool bS) ∧ W.cell? ⟨w25.heap.size, 1, none⟩ = some (.slice pS lS KS) ∧ W.cell? ⟨w25.heap.size, 2, none⟩ = some (.slice qS jS JS)) (by kernel_rfl) ⟨S.c 6 0 rfl rfl, S.c 6 1 rfl rfl, S.c 6 2 rfl rfl⟩ (fun hS => ?_)
        generalize w26.drew = w27 at S nA dA nB dB nn nd nM dM nS dS HH hS ⊢
        refine wpAnyH_take (i := 0) (v := ?_) ((List.getElem?_toArray ..).trans rfl) (by kernel_rfl) (by kernel_rfl) (by kernel_rfl) (fun _ _ _ h => h) (Or.inl ⟨rfl, fun W hW => ?_⟩) hS ?_
        rotate_left
        · obtain ⟨hW0, hW1, hW2⟩ := hW; go_simp; try first | rfl | (rw [if_neg (by first | omega | (simp only [ByteArray.size_append]; first | omega | (have h1 : (ByteArray.mk #[47]).size = 1 := rfl; omega)))]; try rfl) | kernel_rfl
        try simp only [Act.put, List.setIfInBounds_toArray, List.set_cons_zero, List.set_cons_succ]
        refine wpAnyH_ready (rs := [1, 6]) (by kernel_rfl) (by simp) (AllReadyH.cons ((List.getElem?_toArray ..).trans rfl) (fun KK hKK => ?_) (AllReadyH.cons ((List.getElem?_toArray ..).trans rfl) (fun KK hKK => ?_) AllReadyH.nil))
        ·
          go_simp
          clear hS
          refine (S.call (rof_any 1 2 _ (by decide) (by decide) (by decide) (by decide) (by decide) (1 / 2) rhalf_is)).mono ?_
          clear S
          rintro e w28 ⟨⟨_, rfl, bT, pT, lT, KT, qT, jT, JT, rfl, hT, nT, dT⟩, S, H⟩
          replace nA := nA.hold H
          replace dA := dA.hold H
          replace nB := nB.hold H
          replace dB := dB.hold H
          replace nn := nn.hold H
          replace nd := nd.hold H
          replace nM := nM.hold H
          replace dM := dM.hold H
          replace nS := nS.hold H
          replace dS := dS.hold H
          replace HH := HH.trans H
          clear H
          go_wp2_with fail
          refine hKK.out _ _ ⟨S.c 6 0 rfl rfl, S.c 6 1 rfl rfl, S.c 6 2 rfl rfl⟩ (fun hS => ?_)
          clear hKK KK
          try simp only [Act.put, List.setIfInBounds_toArray, List.set_cons_zero, List.set_cons_succ]
          refine wpAnyH_ready (rs := [2, 6]) (by kernel_rfl) (by simp) (AllReadyH.cons ((List.getElem?_toArray ..).trans rfl) (fun KK hKK => ?_) (AllReadyH.cons ((List.getElem?_toArray ..).trans rfl) (fun KK hKK => ?_) AllReadyH.nil))
          ·
            go_simp
            clear hS
            refine (S.call (rmul_any ⟨bS, pS, lS, KS, qS, jS, JS, rfl, hS, nS, dS⟩ ⟨bT, pT, lT, KT, qT, jT, JT, rfl, hT, nT, dT⟩ RS.out RT.out (by decide) zH HH2.out)).mono ?_
            clear S
            rintro e w29 ⟨⟨_, rfl, bH, pH, lH, KH, qH, jH, JH, rfl, hH, nH, dH⟩, S, H⟩
            replace nA := nA.hold H
            replace dA := dA.hold H
            replace nB := nB.hold H
            replace dB := dB.hold H
            replace nn := nn.hold H
            replace nd := nd.hold H
            replace nM := nM.hold H
            replace dM := dM.hold H
            replace nS := nS.hold H
            replace dS := dS.hold H
            replace nT := nT.hold H
            replace dT := dT.hold H
            replace HH := HH.trans H
            clear H
            go_wp2_with fail
            refine hKK.out _ _ ⟨S.c 6 0 rfl rfl, S.c 6 1 rfl rfl, S.c 6 2 rfl rfl⟩ (fun hS => ?_)
            clear hKK KK
            try simp only [Act.put, List.setIfInBounds_toArray, List.set_cons_zero, List.set_cons_succ]
            refine wpAnyH_take (i := 3) (v := ?_) ((List.getElem?_toArray ..).trans rfl) (by kernel_rfl) (by kernel_rfl) (by kernel_rfl) (fun _ _ _ h => h) (Or.inl ⟨rfl, fun W hW => ?_⟩) hS ?_
            rotate_left
            · obtain ⟨hW0, hW1, hW2⟩ := hW; go_simp; try first | rfl | (rw [if_neg (by first | omega | (simp only [ByteArray.size_append]; first | omega | (have h1 : (ByteArray.mk #[47]).size = 1 := rfl; omega)))]; try rfl) | kernel_rfl
            try simp only [Act.put, List.setIfInBounds_toArray, List.set_cons_zero, List.set_cons_succ]
            refine wpAnyH_take (i := 4) (v := ?_) ((List.getElem?_toArray ..).trans rfl) (by kernel_rfl) (by kernel_rfl) (by kernel_rfl) (fun _ _ _ h => h) (Or.inl ⟨rfl, fun W hW => ?_⟩) hS ?_
            rotate_left
            · obtain ⟨hW0, hW1, hW2⟩ := hW; go_simp; try first | rfl | (rw [if_neg (by first | omega | (simp only [ByteArray.size_append]; first | omega | (have h1 : (ByteArray.mk #[47]).size = 1 := rfl; omega)))]; try rfl) | kernel_rfl
            try simp only [Act.put, List.setIfInBounds_toArray, List.set_cons_zero, List.set_cons_succ]
            refine wpAnyH_take (i := 5) (v := ?_) ((List.getElem?_toArray ..).trans rfl) (by kernel_rfl) (by kernel_rfl) (by kernel_rfl) (fun _ _ _ h => h) (Or.inl ⟨rfl, fun W hW => ?_⟩) hS ?_
            rotate_left
            · obtain ⟨hW0, hW1, hW2⟩ := hW; go_simp; try first | rfl | (rw [if_neg (by first | omega | (simp only [ByteArray.size_append]; first | omega | (have h1 : (ByteArray.mk #[47]).size = 1 := rfl; omega)))]; try rfl) | kernel_rfl
            try simp only [Act.put, List.setIfInBounds_toArray, List.set_cons_zero, List.set_cons_succ]
            refine wpAnyH_ready (rs := [6]) (by kernel_rfl) (by simp) (AllReadyH.cons ((List.getElem?_toArray ..).trans rfl) (fun KK hKK => ?_) AllReadyH.nil)
            go_simp
            clear hS
            have H := S.hnew 30 [.bool false, .slice none 0 0, .slice none 0 0]
            replace S := S.alloc 30 [.bool false, .slice none 0 0, .slice none 0 0] (w29.heap.size)
            replace nA := nA.hold H
            replace dA := dA.hold H
            replace nB := nB.hold H
            replace dB := dB.hold H
            replace nn := nn.hold H
            replace nd := nd.hold H
            replace nM := nM.hold H
            replace dM := dM.hold H
            replace nS := nS.hold H
            replace dS := dS.hold H
            replace nT := nT.hold H
            replace dT := dT.hold H
            replace nH := nH.hold H
            replace dH := dH.hold H
            replace HH := HH.trans H
            clear H
            refine hKK.out _ _ ⟨S.c 6 0 rfl rfl, S.c 6 1 rfl rfl, S.c 6 2 rfl rfl⟩ (fun hS => ?_)
            generalize (w29.alloc (.cells #[.bool false, .slice none 0 0, .slice none 0 0] 30)) = w30 at S nA dA nB dB nn nd nM dM nS dS nT dT nH dH HH hS ⊢
            clear hKK KK
            try simp only [Act.put, List.setIfInBounds_toArray, List.set_cons_zero, List.set_cons_succ]
            refine wpAnyH_ready (rs := [7]) (by kernel_rfl) (by simp) (AllReadyH.cons ((List.getElem?_toArray ..).trans rfl) (fun KK hKK => ?_) AllReadyH.nil)
            have c0 := S.c 7 0 rfl rfl
            have f0 := S.f 7 0 rfl
            have c1 := S.c 7 1 rfl rfl
            have f1 := S.f 7 1 rfl
            have c2 := S.c 7 2 rfl rfl
            have f2 := S.f 7 2 rfl
            go_simp
            clear hS c0 f0 c1 f1 c2 f2
            have H := S.hset 7 0 (.bool bH) rfl rfl (by intro q n e; cases e)
            replace S := S.set 7 0 (.bool bH) rfl
            replace nA := nA.hold H
            replace dA := dA.hold H
            replace nB := nB.hold H
            replace dB := dB.hold H
            replace nn := nn.hold H
            replace nd := nd.hold H
            replace nM := nM.hold H
            replace dM := dM.hold H
            replace nS := nS.hold H
            replace dS := dS.hold H
            replace nT := nT.hold H
            replace dT := dT.hold H
            replace nH := nH.hold H
            replace dH := dH.hold H
            replace HH := HH.trans H
            clear H
            have H := S.hset 7 1 (.slice pH lH KH) rfl rfl (by intro q n e; cases e)
            replace S := S.set 7 1 (.slice pH lH KH) rfl
            replace nA := nA.hold H
            replace dA := dA.hold H
            replace nB := nB.hold H
            replace dB := dB.hold H
            replace nn := nn.hold H
            replace nd := nd.hold H
            replace nM := nM.hold H
            replace dM := dM.hold H
            replace nS := nS.hold H
            replace dS := dS.hold H
            replace nT := nT.hold H
            replace dT := dT.hold H
            replace nH := nH.hold H
            replace dH := dH.hold H
            replace HH := HH.trans H
            clear H
            have H := S.hset 7 2 (.slice qH jH JH) rfl rfl (by intro q n e; cases e)
            replace S := S.set 7 2 (.slice qH jH JH) rfl
            replace nA := nA.hold H
            replace dA := dA.hold H
            replace nB := nB.hold H
            replace dB := dB.hold H
            replace nn := nn.hold H
            replace nd := nd.hold H
            replace nM := nM.hold H
            replace dM := dM.hold H
            replace nS := nS.hold H
            replace dS := dS.hold H
            replace nT := nT.hold H
            replace dT := dT.hold H
            replace nH := nH.hold H
            replace dH := dH.hold H
            replace HH := HH.trans H
            clear H
            refine hKK.out _ _ ⟨S.c 6 0 rfl rfl, S.c 6 1 rfl rfl, S.c 6 2 rfl rfl⟩ (fun hS => ?_)
            generalize (((w30.setCell ⟨w29.heap.size, 0, none⟩ (.bool bH)).setCell ⟨w29.heap.size, 1, none⟩ (.slice pH lH KH)).setCell ⟨w29.heap.size, 2, none⟩ (.slice qH jH JH)) = w31 at S nA dA nB dB nn nd nM dM nS dS nT dT nH dH HH hS ⊢
            clear hKK KK
            try simp only [Act.put, List.setIfInBounds_toArray, List.set_cons_zero, List.set_cons_succ]
            refine wpAnyH_ready (rs := [8]) (by kernel_rfl) (by simp) (AllReadyH.cons ((List.getElem?_toArray ..).trans rfl) (fun KK hKK => ?_) AllReadyH.nil)
            go_simp
            refine hKK.out _ _ hS (fun hS => ?_)
            clear hKK KK
            try simp only [Act.put, List.setIfInBounds_toArray, List.set_cons_zero, List.set_cons_succ]
            refine wpAnyH_done (by kernel_rfl) ?_ _
            go_wp2_with fail
            go_meet
            case rel => exact ⟨w29.heap.size, bH, pH, lH, KH, qH, jH, JH, rfl, rfl, S, hH, nH, dH, HH⟩
          ·
            go_simp
            clear hS
            have H := S.hnew 30 [.bool false, .slice none 0 0, .slice none 0 0]
            replace S := S.alloc 30 [.bool false, .slice none 0 0, .slice none 0 0] (w28.heap.size)
            replace nA := nA.hold H
            replace dA := dA.hold H
            replace nB := nB.hold H
            replace dB := dB.hold H
            replace nn := nn.hold H
            replace nd := nd.hold H
            replace nM := nM.hold H
            replace dM := dM.hold H
            replace nS := nS.hold H
            replace dS := dS.hold H
            replace nT := nT.hold H
            replace dT := dT.hold H
            replace HH := HH.trans H
            clear H
            refine hKK.out _ _ ⟨S.c 6 0 rfl rfl, S.c 6 1 rfl rfl, S.c 6 2 rfl rfl⟩ (fun hS => ?_)
            generalize (w28.alloc (.cells #[.bool false, .slice none 0 0, .slice none 0 0] 30)) = w32 at S nA dA nB dB nn nd nM dM nS dS nT dT HH hS ⊢
            clear hKK KK
            try simp only [Act.put, List.setIfInBounds_toArray, List.set_cons_zero, List.set_cons_succ]
            refine wpAnyH_ready (rs := [2]) (by kernel_rfl) (by simp) (AllReadyH.cons ((List.getElem?_toArray ..).trans rfl) (fun KK hKK => ?_) AllReadyH.nil)
            go_simp
            clear hS
            refine (S.call (rmul_any ⟨bS, pS, lS, KS, qS, jS, JS, rfl, hS, nS, dS⟩ ⟨bT, pT, lT, KT, qT, jT, JT, rfl, hT, nT, dT⟩ RS.out RT.out (by decide) zH HH2.out)).mono ?_
            clear S
            rintro e w33 ⟨⟨_, rfl, bH, pH, lH, KH, qH, jH, JH, rfl, hH, nH, dH⟩, S, H⟩
            replace nA := nA.hold H
            replace dA := dA.hold H
            replace nB := nB.hold H
            replace dB := dB.hold H
            replace nn := nn.hold H
            replace nd := nd.hold H
            replace nM := nM.hold H
            replace dM := dM.hold H
            replace nS := nS.hold H
            replace dS := dS.hold H
            replace nT := nT.hold H
            replace dT := dT.hold H
            replace HH := HH.trans H
            clear H
            go_wp2_with fail
            refine hKK.out _ _ ⟨S.c 6 0 rfl rfl, S.c 6 1 rfl rfl, S.c 6 2 rfl rfl⟩ (fun hS => ?_)
            clear hKK KK
            try simp only [Act.put, List.setIfInBounds_toArray, List.set_cons_zero, List.set_cons_succ]
            refine wpAnyH_take (i := 3) (v := ?_) ((List.getElem?_toArray ..).trans rfl) (by kernel_rfl) (by kernel_rfl) (by kernel_rfl) (fun _ _ _ h => h) (Or.inl ⟨rfl, fun W hW => ?_⟩) hS ?_
            rotate_left
            · obtain ⟨hW0, hW1, hW2⟩ := hW; go_simp; try first | rfl | (rw [if_neg (by first | omega | (simp only [ByteArray.size_append]; first | omega | (have h1 : (ByteArray.mk #[47]).size = 1 := rfl; omega)))]; try rfl) | kernel_rfl
            try simp only [Act.put, List.setIfInBounds_toArray, List.set_cons_zero, List.set_cons_succ]
            refine wpAnyH_take (i := 4) (v := ?_) ((List.getElem?_toArray ..).trans rfl) (by kernel_rfl) (by kernel_rfl) (by kernel_rfl) (fun _ _ _ h => h) (Or.inl ⟨rfl, fun W hW => ?_⟩) hS ?_
            rotate_left
            · obtain ⟨hW0, hW1, hW2⟩ := hW; go_simp; try first | rfl | (rw [if_neg (by first | omega | (simp only [ByteArray.size_append]; first | omega | (have h1 : (ByteArray.mk #[47]).size = 1 := rfl; omega)))]; try rfl) | kernel_rfl
            try simp only [Act.put, List.setIfInBounds_toArray, List.set_cons_zero, List.set_cons_succ]
            refine wpAnyH_take (i := 5) (v := ?_) ((List.getElem?_toArray ..).trans rfl) (by kernel_rfl) (by kernel_rfl) (by kernel_rfl) (fun _ _ _ h => h) (Or.inl ⟨rfl, fun W hW => ?_⟩) hS ?_
            rotate_left
            · obtain ⟨hW0, hW1, hW2⟩ := hW; go_simp; try first | rfl | (rw [if_neg (by first | omega | (simp only [ByteArray.size_append]; first | omega | (have h1 : (ByteArray.mk #[47]).size = 1 := rfl; omega)))]; try rfl) | kernel_rfl
            try simp only [Act.put, List.setIfInBounds_toArray, List.set_cons_zero, List.set_cons_succ]
            refine wpAnyH_ready (rs := [7]) (by kernel_rfl) (by simp) (AllReadyH.cons ((List.getElem?_toArray ..).trans rfl) (fun KK hKK => ?_) AllReadyH.nil)
            have c0 := S.c 7 0 rfl rfl
            have f0 := S.f 7 0 rfl
            have c1 := S.c 7 1 rfl rfl
            have f1 := S.f 7 1 rfl
            have c2 := S.c 7 2 rfl rfl
            have f2 := S.f 7 2 rfl
            go_simp
            clear hS c0 f0 c1 f1 c2 f2
            have H := S.hset 7 0 (.bool bH) rfl rfl (by intro q n e; cases e)
            replace S := S.set 7 0 (.bool bH) rfl
            replace nA := nA.hold H
            replace dA := dA.hold H
            replace nB := nB.hold H
            replace dB := dB.hold H
            replace nn := nn.hold H
            replace nd := nd.hold H
            replace nM := nM.hold H
            replace dM := dM.hold H
            replace nS := nS.hold H
            replace dS := dS.hold H
            replace nT := nT.hold H
            replace dT := dT.hold H
            replace nH := nH.hold H
            replace dH := dH.hold H
            replace HH := HH.trans H
            clear H
            have H := S.hset 7 1 (.slice pH lH KH) rfl rfl (by intro q n e; cases e)
            replace S := S.set 7 1 (.slice pH lH KH) rfl
            replace nA := nA.hold H
            replace dA := dA.hold H
            replace nB := nB.hold H
            replace dB := dB.hold H
            replace nn := nn.hold H
            replace nd := nd.hold H
            replace nM := nM.hold H
            replace dM := dM.hold H
            replace nS := nS.hold H
            replace dS := dS.hold H
            replace nT := nT.hold H
            replace dT := dT.hold H
            replace nH := nH.hold H
            replace dH := dH.hold H
            replace HH := HH.trans H
            clear H
            have H := S.hset 7 2 (.slice qH jH JH) rfl rfl (by intro q n e; cases e)
            replace S := S.set 7 2 (.slice qH jH JH) rfl
            replace nA := nA.hold H
            replace dA := dA.hold H
            replace nB := nB.hold H
            replace dB := dB.hold H
            replace nn := nn.hold H
            replace nd := nd.hold H
            replace nM := nM.hold H
            replace dM := dM.hold H
            replace nS := nS.hold H
            replace dS := dS.hold H
            replace nT := nT.hold H
            replace dT := dT.hold H
            replace nH := nH.hold H
            replace dH := dH.hold H
            replace HH := HH.trans H
            clear H
            refine hKK.out _ _ ⟨S.c 6 0 rfl rfl, S.c 6 1 rfl rfl, S.c 6 2 rfl rfl⟩ (fun hS => ?_)
            generalize (((w33.setCell ⟨w28.heap.size, 0, none⟩ (.bool bH)).setCell ⟨w28.heap.size, 1, none⟩ (.slice pH lH KH)).setCell ⟨w28.heap.size, 2, none⟩ (.slice qH jH JH)) = w34 at S nA dA nB dB nn nd nM dM nS dS nT dT nH dH HH hS ⊢
            clear hKK KK
            try simp only [Act.put, List.setIfInBounds_toArray, List.set_cons_zero, List.set_cons_succ]
            refine wpAnyH_ready (rs := [8]) (by kernel_rfl) (by simp) (AllReadyH.cons ((List.getElem?_toArray ..).trans rfl) (fun KK hKK => ?_) AllReadyH.nil)
            go_simp
            refine hKK.out _ _ hS (fun hS => ?_)
            clear hKK KK
            try simp only [Act.put, List.setIfInBounds_toArray, List.set_cons_zero, List.set_cons_succ]
            refine wpAnyH_done (by kernel_rfl) ?_ _
            go_wp2_with fail
            go_meet
            case rel => exact ⟨w28.heap.size, bH, pH, lH, KH, qH, jH, JH, rfl, rfl, S, hH, nH, dH, HH⟩
        ·
          go_simp
          clear hS
          have H := S.hnew 30 [.bool false, .slice none 0 0, .slice none 0 0]
          replace S := S.alloc 30 [.bool false, .slice none 0 0, .slice none 0 0] (w27.heap.size)
          replace nA := nA.hold H
          replace dA := dA.hold H
          replace nB := nB.hold H
          replace dB := dB.hold H
          replace nn := nn.hold H
          replace nd := nd.hold H
          replace nM := nM.hold H
          replace dM := dM.hold H
          replace nS := nS.hold H
          replace dS := dS.hold H
          replace HH := HH.trans H
          clear H
          refine hKK.out _ _ ⟨S.c 6 0 rfl rfl, S.c 6 1 rfl rfl, S.c 6 2 rfl rfl⟩ (fun hS => ?_)
          generalize (w27.alloc (.cells #[.bool false, .slice none 0 0, .slice none 0 0] 30)) = w35 at S nA dA nB dB nn nd nM dM nS dS HH hS ⊢
          clear hKK KK
          try simp only [Act.put, List.setIfInBounds_toArray, List.set_cons_zero, List.set_cons_succ]
          refine wpAnyH_ready (rs := [1]) (by kernel_rfl) (by simp) (AllReadyH.cons ((List.getElem?_toArray ..).trans rfl) (fun KK hKK => ?_) AllReadyH.nil)
          go_simp
          clear hS
          refine (S.call (rof_any 1 2 _ (by decide) (by decide) (by decide) (by decide) (by decide) (1 / 2) rhalf_is)).mono ?_
          clear S
          rintro e w36 ⟨⟨_, rfl, bT, pT, lT, KT, qT, jT, JT, rfl, hT, nT, dT⟩, S, H⟩
          replace nA := nA.hold H
          replace dA := dA.hold H
          replace nB := nB.hold H
          replace dB := dB.hold H
          replace nn := nn.hold H
          replace nd := nd.hold H
          replace nM := nM.hold H
          replace dM := dM.hold H
          replace nS := nS.hold H
          replace dS := dS.hold H
          replace HH := HH.trans H
          clear H
          go_wp2_with fail
          refine hKK.out _ _ ⟨S.c 6 0 rfl rfl, S.c 6 1 rfl rfl, S.c 6 2 rfl rfl⟩ (fun hS => ?_)
          clear hKK KK
          try simp only [Act.put, List.setIfInBounds_toArray, List.set_cons_zero, List.set_cons_succ]
          refine wpAnyH_ready (rs := [2]) (by kernel_rfl) (by simp) (AllReadyH.cons ((List.getElem?_toArray ..).trans rfl) (fun KK hKK => ?_) AllReadyH.nil)
          go_simp
          clear hS
          refine (S.call (rmul_any ⟨bS, pS, lS, KS, qS, jS, JS, rfl, hS, nS, dS⟩ ⟨bT, pT, lT, KT, qT, jT, JT, rfl, hT, nT, dT⟩ RS.out RT.out (by decide) zH HH2.out)).mono ?_
          clear S
          rintro e w37 ⟨⟨_, rfl, bH, pH, lH, KH, qH, jH, JH, rfl, hH, nH, dH⟩, S, H⟩
          replace nA := nA.hold H
          replace dA := dA.hold H
          replace nB := nB.hold H
          replace dB := dB.hold H
          replace nn := nn.hold H
          replace nd := nd.hold H
          replace nM := nM.hold H
          replace dM := dM.hold H
          replace nS := nS.hold H
          replace dS := dS.hold H
          replace nT := nT.hold H
          replace dT := dT.hold H
          replace HH := HH.trans H
          clear H
          go_wp2_with fail
          refine hKK.out _ _ ⟨S.c 6 0 rfl rfl, S.c 6 1 rfl rfl, S.c 6 2 rfl rfl⟩ (fun hS => ?_)
          clear hKK KK
          try simp only [Act.put, List.setIfInBounds_toArray, List.set_cons_zero, List.set_cons_succ]
          refine wpAnyH_take (i := 3) (v := ?_) ((List.getElem?_toArray ..).trans rfl) (by kernel_rfl) (by kernel_rfl) (by kernel_rfl) (fun _ _ _ h => h) (Or.inl ⟨rfl, fun W hW => ?_⟩) hS ?_
          rotate_left
          · obtain ⟨hW0, hW1, hW2⟩ := hW; go_simp; try first | rfl | (rw [if_neg (by first | omega | (simp only [ByteArray.size_append]; first | omega | (have h1 : (ByteArray.mk #[47]).size = 1 := rfl; omega)))]; try rfl) | kernel_rfl
          try simp only [Act.put, List.setIfInBounds_toArray, List.set_cons_zero, List.set_cons_succ]
          refine wpAnyH_take (i := 4) (v := ?_) ((List.getElem?_toArray ..).trans rfl) (by kernel_rfl) (by kernel_rfl) (by kernel_rfl) (fun _ _ _ h => h) (Or.inl ⟨rfl, fun W hW => ?_⟩) hS ?_
          rotate_left
          · obtain ⟨hW0, hW1, hW2⟩ := hW; go_simp; try first | rfl | (rw [if_neg (by first | omega | (simp only [ByteArray.size_append]; first | omega | (have h1 : (ByteArray.mk #[47]).size = 1 := rfl; omega)))]; try rfl) | kernel_rfl
          try simp only [Act.put, List.setIfInBounds_toArray, List.set_cons_zero, List.set_cons_succ]
          refine wpAnyH_take (i := 5) (v := ?_) ((List.getElem?_toArray ..).trans rfl) (by kernel_rfl) (by kernel_rfl) (by kernel_rfl) (fun _ _ _ h => h) (Or.inl ⟨rfl, fun W hW => ?_⟩) hS ?_
          rotate_left
          · obtain ⟨hW0, hW1, hW2⟩ := hW; go_simp; try first | rfl | (rw [if_neg (by first | omega | (simp only [ByteArray.size_append]; first | omega | (have h1 : (ByteArray.mk #[47]).size = 1 := rfl; omega)))]; try rfl) | kernel_rfl
          try simp only [Act.put, List.setIfInBounds_toArray, List.set_cons_zero, List.set_cons_succ]
          refine wpAnyH_ready (rs := [7]) (by kernel_rfl) (by simp) (AllReadyH.cons ((List.getElem?_toArray ..).trans rfl) (fun KK hKK => ?_) AllReadyH.nil)
          have c0 := S.c 7 0 rfl rfl
          have f0 := S.f 7 0 rfl
          have c1 := S.c 7 1 rfl rfl
          have f1 := S.f 7 1 rfl
          have c2 := S.c 7 2 rfl rfl
          have f2 := S.f 7 2 rfl
          go_simp
          clear hS c0 f0 c1 f1 c2 f2
          have H := S.hset 7 0 (.bool bH) rfl rfl (by intro q n e; cases e)
          replace S := S.set 7 0 (.bool bH) rfl
          replace nA := nA.hold H
          replace dA := dA.hold H
          replace nB := nB.hold H
          replace dB := dB.hold H
          replace nn := nn.hold H
          replace nd := nd.hold H
          replace nM := nM.hold H
          replace dM := dM.hold H
          replace nS := nS.hold H
          replace dS := dS.hold H
          replace nT := nT.hold H
          replace dT := dT.hold H
          replace nH := nH.hold H
          replace dH := dH.hold H
          replace HH := HH.trans H
          clear H
          have H := S.hset 7 1 (.slice pH lH KH) rfl rfl (by intro q n e; cases e)
          replace S := S.set 7 1 (.slice pH lH KH) rfl
          replace nA := nA.hold H
          replace dA := dA.hold H
          replace nB := nB.hold H
          replace dB := dB.hold H
          replace nn := nn.hold H
          replace nd := nd.hold H
          replace nM := nM.hold H
          replace dM := dM.hold H
          replace nS := nS.hold H
          replace dS := dS.hold H
          replace nT := nT.hold H
          replace dT := dT.hold H
          replace nH := nH.hold H
          replace dH := dH.hold H
          replace HH := HH.trans H
          clear H
          have H := S.hset 7 2 (.slice qH jH JH) rfl rfl (by intro q n e; cases e)
          replace S := S.set 7 2 (.slice qH jH JH) rfl
          replace nA := nA.hold H
          replace dA := dA.hold H
          replace nB := nB.hold H
          replace dB := dB.hold H
          replace nn := nn.hold H
          replace nd := nd.hold H
          replace nM := nM.hold H
          replace dM := dM.hold H
          replace nS := nS.hold H
          replace dS := dS.hold H
          replace nT := nT.hold H
          replace dT := dT.hold H
          replace nH := nH.hold H
          replace dH := dH.hold H
          replace HH := HH.trans H
          clear H
          refine hKK.out _ _ ⟨S.c 6 0 rfl rfl, S.c 6 1 rfl rfl, S.c 6 2 rfl rfl⟩ (fun hS => ?_)
          generalize (((w37.setCell ⟨w27.heap.size, 0, none⟩ (.bool bH)).setCell ⟨w27.heap.size, 1, none⟩ (.slice pH lH KH)).setCell ⟨w27.heap.size, 2, none⟩ (.slice qH jH JH)) = w38 at S nA dA nB dB nn nd nM dM nS dS nT dT nH dH HH hS ⊢
          clear hKK KK
          try simp only [Act.put, List.setIfInBounds_toArray, List.set_cons_zero, List.set_cons_succ]
          refine wpAnyH_ready (rs := [8]) (by kernel_rfl) (by simp) (AllReadyH.cons ((List.getElem?_toArray ..).trans rfl) (fun KK hKK => ?_) AllReadyH.nil)
          go_simp
          refine hKK.out _ _ hS (fun hS => ?_)
          clear hKK KK
          try simp only [Act.put, List.setIfInBounds_toArray, List.set_cons_zero, List.set_cons_succ]
          refine wpAnyH_done (by kernel_rfl) ?_ _
          go_wp2_with fail
          go_meet
          case rel => exact ⟨w27.heap.size, bH, pH, lH, KH, qH, jH, JH, rfl, rfl, S, hH, nH, dH, HH⟩
      case rest =>
        obtain ⟨g13, bH, pH, lH, KH, qH, jH, JH, rfl, rfl, S, hH, nH, dH, HH⟩ := hcut
        obtain ⟨w39, rfl⟩ : ∃ W : World, W = wc := ⟨_, rfl⟩
        replace nA := nA.hold HH
        replace dA := dA.hold HH
        replace nB := nB.hold HH
        replace dB := dB.hold HH
        replace nn := nn.hold HH
        replace nd := nd.hold HH
        replace nM := nM.hold HH
        replace dM := dM.hold HH
        replace nS := nS.hold HH
        replace dS := dS.hold HH
        clear HH
        have c0_0 := S.c 0 0 rfl rfl
        have c0_1 := S.c 0 1 rfl rfl
        have c0_2 := S.c 0 2 rfl rfl
        have c1_0 := S.c 1 0 rfl rfl
        have c1_1 := S.c 1 1 rfl rfl
        have c1_2 := S.c 1 2 rfl rfl
        go_wp2_with fail
        clear c0_0 c0_1 c0_2 c1_0 c1_1 c1_2
        refine (S.call (rcompare_any ⟨bA, pA, lA, KA, qA, jA, JA, rfl, hA, nA, dA⟩ ⟨bB, pB, lB, KB, qB, jB, JB, rfl, hB, nB, dB⟩ RA.out RBB.out (by decide) c HC.out.1)).mono ?_
        clear S
        rintro e w40 ⟨rfl, S, H⟩
        replace nA := nA.hold H
        replace dA := dA.hold H
        replace nB := nB.hold H
        replace dB := dB.hold H
        replace nn := nn.hold H
        replace nd := nd.hold H
        replace nM := nM.hold H
        replace dM := dM.hold H
        replace nS := nS.hold H
        replace dS := dS.hold H
        replace nH := nH.hold H
        replace dH := dH.hold H
        clear H
        have c0_0 := S.c 0 0 rfl rfl
        have c0_1 := S.c 0 1 rfl rfl
        have c0_2 := S.c 0 2 rfl rfl
        have c1_0 := S.c 1 0 rfl rfl
        have c1_1 := S.c 1 1 rfl rfl
        have c1_2 := S.c 1 2 rfl rfl
        clear c0_0 c0_1 c0_2 c1_0 c1_1 c1_2
        have c0_0 := S.c 0 0 rfl rfl
        have c0_1 := S.c 0 1 rfl rfl
        have c0_2 := S.c 0 2 rfl rfl
        have c5_0 := S.c 5 0 rfl rfl
        have c5_1 := S.c 5 1 rfl rfl
        have c5_2 := S.c 5 2 rfl rfl
        go_wp2_with fail
        clear c0_0 c0_1 c0_2 c5_0 c5_1 c5_2
        refine (S.call (rcompare_any ⟨bA, pA, lA, KA, qA, jA, JA, rfl, hA, nA, dA⟩ ⟨bM, pM, lM, KM, qM, jM, JM, rfl, hM, nM, dM⟩ RA.out RM.out (by decide) c HC.out.2.1)).mono ?_
        clear S
        rintro e w41 ⟨rfl, S, H⟩
        replace nA := nA.hold H
        replace dA := dA.hold H
        replace nB := nB.hold H
        replace dB := dB.hold H
        replace nn := nn.hold H
        replace nd := nd.hold H
        replace nM := nM.hold H
        replace dM := dM.hold H
        replace nS := nS.hold H
        replace dS := dS.hold H
        replace nH := nH.hold H
        replace dH := dH.hold H
        clear H
        have c0_0 := S.c 0 0 rfl rfl
        have c0_1 := S.c 0 1 rfl rfl
        have c0_2 := S.c 0 2 rfl rfl
        have c5_0 := S.c 5 0 rfl rfl
        have c5_1 := S.c 5 1 rfl rfl
        have c5_2 := S.c 5 2 rfl rfl
        clear c0_0 c0_1 c0_2 c5_0 c5_1 c5_2
        have c1_0 := S.c 1 0 rfl rfl
        have c1_1 := S.c 1 1 rfl rfl
        have c1_2 := S.c 1 2 rfl rfl
        have c5_0 := S.c 5 0 rfl rfl
        have c5_1 := S.c 5 1 rfl rfl
        have c5_2 := S.c 5 2 rfl rfl
        go_wp2_with fail
        clear c1_0 c1_1 c1_2 c5_0 c5_1 c5_2
        refine (S.call (rcompare_any ⟨bM, pM, lM, KM, qM, jM, JM, rfl, hM, nM, dM⟩ ⟨bB, pB, lB, KB, qB, jB, JB, rfl, hB, nB, dB⟩ RM.out RBB.out (by decide) c HC.out.2.2.1)).mono ?_
        clear S
        rintro e w42 ⟨rfl, S, H⟩
        replace nA := nA.hold H
        replace dA := dA.hold H
        replace nB := nB.hold H
        replace dB := dB.hold H
        replace nn := nn.hold H
        replace nd := nd.hold H
        replace nM := nM.hold H
        replace dM := dM.hold H
        replace nS := nS.hold H
        replace dS := dS.hold H
        replace nH := nH.hold H
        replace dH := dH.hold H
        clear H
        have c1_0 := S.c 1 0 rfl rfl
        have c1_1 := S.c 1 1 rfl rfl
        have c1_2 := S.c 1 2 rfl rfl
        have c5_0 := S.c 5 0 rfl rfl
        have c5_1 := S.c 5 1 rfl rfl
        have c5_2 := S.c 5 2 rfl rfl
        clear c1_0 c1_1 c1_2 c5_0 c5_1 c5_2
        have c0_0 := S.c 0 0 rfl rfl
        have c0_1 := S.c 0 1 rfl rfl
        have c0_2 := S.c 0 2 rfl rfl
        have c7_0 := S.c 7 0 rfl rfl
        have c7_1 := S.c 7 1 rfl rfl
        have c7_2 := S.c 7 2 rfl rfl
        go_wp2_with fail
        clear c0_0 c0_1 c0_2 c7_0 c7_1 c7_2
        refine (S.call (rcompare_any ⟨bA, pA, lA, KA, qA, jA, JA, rfl, hA, nA, dA⟩ ⟨bH, pH, lH, KH, qH, jH, JH, rfl, hH, nH, dH⟩ RA.out RH.out (by decide) c HC.out.2.2.2.1)).mono ?_
        clear S
        rintro e w43 ⟨rfl, S, H⟩
        replace nA := nA.hold H
        replace dA := dA.hold H
        replace nB := nB.hold H
        replace dB := dB.hold H
        replace nn := nn.hold H
        replace nd := nd.hold H
        replace nM := nM.hold H
        replace dM := dM.hold H
        replace nS := nS.hold H
        replace dS := dS.hold H
        replace nH := nH.hold H
        replace dH := dH.hold H
        clear H
        have c0_0 := S.c 0 0 rfl rfl
        have c0_1 := S.c 0 1 rfl rfl
        have c0_2 := S.c 0 2 rfl rfl
        have c7_0 := S.c 7 0 rfl rfl
        have c7_1 := S.c 7 1 rfl rfl
        have c7_2 := S.c 7 2 rfl rfl
        clear c0_0 c0_1 c0_2 c7_0 c7_1 c7_2
        have c1_0 := S.c 1 0 rfl rfl
        have c1_1 := S.c 1 1 rfl rfl
        have c1_2 := S.c 1 2 rfl rfl
        have c7_0 := S.c 7 0 rfl rfl
        have c7_1 := S.c 7 1 rfl rfl
        have c7_2 := S.c 7 2 rfl rfl
        go_wp2_with fail
        clear c1_0 c1_1 c1_2 c7_0 c7_1 c7_2
        refine (S.call (rcompare_any ⟨bH, pH, lH, KH, qH, jH, JH, rfl, hH, nH, dH⟩ ⟨bB, pB, lB, KB, qB, jB, JB, rfl, hB, nB, dB⟩ RH.out RBB.out (by decide) c HC.out.2.2.2.2)).mono ?_
        clear S
        rintro e w44 ⟨rfl, S, H⟩
        replace nA := nA.hold H
        replace dA := dA.hold H
        replace nB := nB.hold H
        replace dB := dB.hold H
        replace nn := nn.hold H
        replace nd := nd.hold H
        replace nM := nM.hold H
        replace dM := dM.hold H
        replace nS := nS.hold H
        replace dS := dS.hold H
        replace nH := nH.hold H
        replace dH := dH.hold H
        clear H
        have c1_0 := S.c 1 0 rfl rfl
        have c1_1 := S.c 1 1 rfl rfl
        have c1_2 := S.c 1 2 rfl rfl
        have c7_0 := S.c 7 0 rfl rfl
        have c7_1 := S.c 7 1 rfl rfl
        have c7_2 := S.c 7 2 rfl rfl
        clear c1_0 c1_1 c1_2 c7_0 c7_1 c7_2
        have H := S.hnew 27 [.int .i64 0, .int .i64 0, .int .i64 0, .int .i64 0, .int .i64 0, .int .i64 0, .int .i64 0, .int .i64 0]
        replace S := S.alloc 27 [.int .i64 0, .int .i64 0, .int .i64 0, .int .i64 0, .int .i64 0, .int .i64 0, .int .i64 0, .int .i64 0] (w44.heap.size)
        replace nA := nA.hold H
        replace dA := dA.hold H
        replace nB := nB.hold H
        replace dB := dB.hold H
        replace nn := nn.hold H
        replace nd := nd.hold H
        replace nM := nM.hold H
        replace dM := dM.hold H
        replace nS := nS.hold H
        replace dS := dS.hold H
        replace nH := nH.hold H
        replace dH := dH.hold H
        clear H
        go_wp2_with fail
        generalize (w44.alloc (.cells #[.int .i64 0, .int .i64 0, .int .i64 0, .int .i64 0, .int .i64 0, .int .i64 0, .int .i64 0, .int .i64 0] 27)) = w45 at S nA dA nB dB nn nd nM dM nS dS nH dH ⊢
        have hall : ∀ k, k < 8 → w45.cell? ⟨w44.heap.size, k, none⟩ = some (.int .i64 0) := fun k hk => by
          match k, hk with
          | 0, _ => exact S.c 8 0 rfl rfl
          | 1, _ => exact S.c 8 1 rfl rfl
          | 2, _ => exact S.c 8 2 rfl rfl
          | 3, _ => exact S.c 8 3 rfl rfl
          | 4, _ => exact S.c 8 4 rfl rfl
          | 5, _ => exact S.c 8 5 rfl rfl
          | 6, _ => exact S.c 8 6 rfl rfl
          | 7, _ => exact S.c 8 7 rfl rfl
        have HA := Lib.hid hall
        clear hall
        go_loopw [110, 26] (fun si sz wr => ∃ k : Nat, k ≤ 8 ∧ si = .int .i64 k ∧ w45 = wr) (fun si _ _ => 8 - (intOf si).toNat)
        case atStart => exact ⟨0, by omega, rfl, rfl⟩
        case round =>
          obtain ⟨k, hk, rfl, rfl⟩ := hrel
          by_cases hlt : k < 8
          · have a0 := HA.out k hlt
            have HL := Lib.hid hlt
            have hki : (k : Int) < 8 := by omega
            clear hlt
            go_wp2_with fail
            go_roundw
            case rel => exact ⟨k + 1, HL.out, by go_num, by first | rfl | trivial⟩
            case measure => have := HL.out; simp [intOf]; omega
          · have hge : ¬ (k : Int) < 8 := by omega
            clear hlt
            go_wp2_with fail
            exact bodyPost_ret (v := .bool true) (by simp [results, Try.f9, go_sem]) rfl (⟨rfl, S.below⟩)

end Go.Proofs.Ytggnjlbnfgjgdaa
