/-
  girdlelaw05.DyadHalves, as a walk: whatever the two numbers, it returns true.
-/
import Derived.Test.YtkokimlgofimmaaDoorM21
import Derived.Test.YtkokimlgofimmaaDoorM25

namespace Go.Proofs.YtkokimlgofimmaaDoor
open Go.RowKit

theorem half_mid (x y : Rat) : (x + y) * (1 / 2) - x = y - (x + y) * (1 / 2) ∧ ((x + y) * (1 / 2)) * 2 = x + y := by constructor <;> grind
theorem half_sgn (x y : Rat) : ((x + y) * (1 / 2) - x).num.sign = cmpR y x := by
  rcases rat_three x y with h | h | h
  · rw [sgn_pos (by grind), cmpR_gt h]
  · subst h; rw [show (x + x) * (1 / 2) - x = 0 by grind, cmpR_eq]; rfl
  · rw [sgn_neg (by grind), cmpR_lt h]
theorem half_dq : dq 1 (-1) = 1 / 2 := by decide +kernel
theorem two_dq : dq 1 1 = 2 := by decide +kernel

set_option maxRecDepth 100000 in
set_option maxHeartbeats 16000000 in
theorem dyadHalves_any (bA : Bool) (pA : Option Addr) (KA : Nat) (dsA : List Nat) (eA : Int) (bB : Bool) (pB : Option Addr) (KB : Nat) (dsB : List Nat) (eB : Int) (w : World) (hT : Tab w) (atA : At .u32 w pA KA dsA) (ddA : Dig 4294967296 dsA) (atB : At .u32 w pB KB dsB) (ddB : Dig 4294967296 dsB) :
    Calls Tryd.prog 6 #[.agg #[.bool bA, .slice pA dsA.length KA, .int .i64 eA], .agg #[.bool bB, .slice pB dsB.length KB, .int .i64 eB]] w fun e w' => e = .returned (.bool true) ∧ Below w.heap.size w w' := by
  have HT := Lib.hid hT
  have HDA := Lib.hid ddA
  obtain ⟨lA, hlA⟩ : ∃ l, dsA.length = l := ⟨_, rfl⟩
  have HLA := Lib.hid hlA
  rw [hlA]
  have HDB := Lib.hid ddB
  obtain ⟨lB, hlB⟩ : ∃ l, dsB.length = l := ⟨_, rfl⟩
  have HLB := Lib.hid hlB
  rw [hlB]
  clear hT ddA hlA ddB hlB
  have S := ((St.start w).alloc 30 [.bool bA, .slice pA lA KA, .int .i64 eA] (w.heap.size)).alloc 30 [.bool bB, .slice pB lB KB, .int .i64 eB] (w.heap.size + 1)
  try simp only [List.cons_append, List.nil_append] at S
  replace atA := atA.hold S.hold
  replace atB := atB.hold S.hold
  have c0_0 := S.c 0 0 rfl rfl
  have c0_1 := S.c 0 1 rfl rfl
  have c0_2 := S.c 0 2 rfl rfl
  have c1_0 := S.c 1 0 rfl rfl
  have c1_1 := S.c 1 1 rfl rfl
  have c1_2 := S.c 1 2 rfl rfl
  go_enter Tryd.func6, Tryd.ntmps6
  go_wp2_with fail
  clear c0_0 c0_1 c0_2 c1_0 c1_1 c1_2
  refine (S.call (halves_any _ (HT.out.below S.below))).mono ?_
  clear S
  rintro e w1 ⟨rfl, S, H⟩
  replace atA := atA.hold H
  replace atB := atB.hold H
  clear H
  have c0_0 := S.c 0 0 rfl rfl
  have c0_1 := S.c 0 1 rfl rfl
  have c0_2 := S.c 0 2 rfl rfl
  have c1_0 := S.c 1 0 rfl rfl
  have c1_1 := S.c 1 1 rfl rfl
  have c1_2 := S.c 1 2 rfl rfl
  have H := S.hnew 30 [.bool bA, .slice pA lA KA, .int .i64 eA, .bool bB, .slice pB lB KB, .int .i64 eB]
  replace S := S.alloc 30 [.bool bA, .slice pA lA KA, .int .i64 eA, .bool bB, .slice pB lB KB, .int .i64 eB] (w1.heap.size)
  try simp only [List.cons_append, List.nil_append] at S
  replace atA := atA.hold H
  replace atB := atB.hold H
  clear H
  go_wp2_with fail
  clear c0_0 c0_1 c0_2 c1_0 c1_1 c1_2
  refine (S.call (dfit_any _ 2 _ _ _ _ _ _ (HT.out.below S.below) (S.lt 2 rfl) (by decide) (draws2 S 2 rfl HLA.out HLB.out atA atB HDA.out HDB.out))).mono ?_
  clear S
  rintro e w2 ⟨⟨ok, rfl, hok⟩, S, H⟩
  replace atA := atA.hold H
  replace atB := atB.hold H
  clear H
  have c0_0 := S.c 0 0 rfl rfl
  have c0_1 := S.c 0 1 rfl rfl
  have c0_2 := S.c 0 2 rfl rfl
  have c1_0 := S.c 1 0 rfl rfl
  have c1_1 := S.c 1 1 rfl rfl
  have c1_2 := S.c 1 2 rfl rfl
  cases ok with
  | false =>
    go_wp2_with fail
    exact bodyPost_ret (v := .bool true) (by simp [results, Tryd.f6, go_sem]) rfl (⟨rfl, S.below⟩)
  | true =>
    have t := hok.out rfl
    obtain ⟨mA, zA, hA, nA, dA⟩ := tried_dy (b := bA) (t 0 (by decide)) HDA.out HLA.out atA (by decide)
    obtain ⟨mB, zB, hB, nB, dB⟩ := tried_dy (b := bB) (t 1 (by decide)) HDB.out HLB.out atB (by decide)
    clear atA atB
    clear t hok
    obtain ⟨zs, hzs⟩ : ∃ z : Rat, zA + zB = z := ⟨_, rfl⟩
    obtain ⟨zm, hzm⟩ : ∃ z : Rat, zs * (1 / 2) = z := ⟨_, rfl⟩
    obtain ⟨zx, hzx⟩ : ∃ z : Rat, zm - zA = z := ⟨_, rfl⟩
    have h1 := half_mid zA zB
    have h2 := half_sgn zA zB
    rw [hzs, hzm] at h1 h2
    rw [hzx] at h1 h2
    obtain ⟨c, hc⟩ : ∃ c, cmpR zB zA = c := ⟨_, rfl⟩
    rw [hc] at h2
    have HQ := Lib.hid (And.intro hzs (And.intro hzm (And.intro hzx (And.intro h1.1.symm (And.intro h1.2 (And.intro h2 hc))))))
    clear hzs hzm hzx h1 h2 hc
    clear c0_0 c0_1 c0_2 c1_0 c1_1 c1_2
    go_wp2_with fail
    refine (S.call (dof_any 1 (-1) _ (HT.out.below S.below) (by decide) (by decide) (by decide) (by decide) (1 / 2) half_dq)).mono ?_
    clear S
    rintro e w3 ⟨⟨_, rfl, bF, pF, lF, KF, mF, eF, rfl, hF, nF, dF⟩, S, H⟩
    replace nA := nA.hold H
    replace nB := nB.hold H
    clear H
    have H := S.hnew 30 [.bool bF, .slice pF lF KF, .int .i64 eF]
    replace S := S.alloc 30 [.bool bF, .slice pF lF KF, .int .i64 eF] (w3.heap.size)
    try simp only [List.cons_append, List.nil_append] at S
    replace nA := nA.hold H
    replace nB := nB.hold H
    replace nF := nF.hold H
    clear H
    have c0_0 := S.c 0 0 rfl rfl
    have c0_1 := S.c 0 1 rfl rfl
    have c0_2 := S.c 0 2 rfl rfl
    have c1_0 := S.c 1 0 rfl rfl
    have c1_1 := S.c 1 1 rfl rfl
    have c1_2 := S.c 1 2 rfl rfl
    go_wp2_with fail
    clear c0_0 c0_1 c0_2 c1_0 c1_1 c1_2
    refine (S.call (dadd_any (HT.out.below S.below) ⟨bA, pA, lA, KA, mA, eA, rfl, hA, nA, dA⟩ ⟨bB, pB, lB, KB, mB, eB, rfl, hB, nB, dB⟩ (by decide) zs HQ.out.1)).mono ?_
    clear S
    rintro e w4 ⟨⟨_, rfl, bs, ps, ls, Ks, ms, es, rfl, hs, ns, ds⟩, S, H⟩
    replace nA := nA.hold H
    replace nB := nB.hold H
    replace nF := nF.hold H
    clear H
    have c0_0 := S.c 0 0 rfl rfl
    have c0_1 := S.c 0 1 rfl rfl
    have c0_2 := S.c 0 2 rfl rfl
    have c1_0 := S.c 1 0 rfl rfl
    have c1_1 := S.c 1 1 rfl rfl
    have c1_2 := S.c 1 2 rfl rfl
    have H := S.hnew 30 [.bool bs, .slice ps ls Ks, .int .i64 es]
    replace S := S.alloc 30 [.bool bs, .slice ps ls Ks, .int .i64 es] (w4.heap.size)
    try simp only [List.cons_append, List.nil_append] at S
    replace nA := nA.hold H
    replace nB := nB.hold H
    replace nF := nF.hold H
    replace ns := ns.hold H
    clear H
    clear c0_0 c0_1 c0_2 c1_0 c1_1 c1_2
    have c3_0 := S.c 3 0 rfl rfl
    have c3_1 := S.c 3 1 rfl rfl
    have c3_2 := S.c 3 2 rfl rfl
    have c4_0 := S.c 4 0 rfl rfl
    have c4_1 := S.c 4 1 rfl rfl
    have c4_2 := S.c 4 2 rfl rfl
    go_wp2_with fail
    generalize (.tuple #[.agg #[.bool bs, .slice ps ls Ks, .int .i64 es], .int .i64 0] : Value) = g1
    clear c3_0 c3_1 c3_2 c4_0 c4_1 c4_2
    refine (S.call (dmul_any (HT.out.below S.below) ⟨bs, ps, ls, Ks, ms, es, rfl, hs, ns, ds⟩ ⟨bF, pF, lF, KF, mF, eF, rfl, hF, nF, dF⟩ (by decide) zm HQ.out.2.1)).mono ?_
    clear S
    rintro e w5 ⟨⟨_, rfl, bm, pm, lm, Km, mm, em, rfl, hm, nm, dm⟩, S, H⟩
    replace nA := nA.hold H
    replace nB := nB.hold H
    replace nF := nF.hold H
    replace ns := ns.hold H
    clear H
    have c3_0 := S.c 3 0 rfl rfl
    have c3_1 := S.c 3 1 rfl rfl
    have c3_2 := S.c 3 2 rfl rfl
    have c4_0 := S.c 4 0 rfl rfl
    have c4_1 := S.c 4 1 rfl rfl
    have c4_2 := S.c 4 2 rfl rfl
    have H := S.hnew 30 [.bool bm, .slice pm lm Km, .int .i64 em]
    replace S := S.alloc 30 [.bool bm, .slice pm lm Km, .int .i64 em] (w5.heap.size)
    try simp only [List.cons_append, List.nil_append] at S
    replace nA := nA.hold H
    replace nB := nB.hold H
    replace nF := nF.hold H
    replace ns := ns.hold H
    replace nm := nm.hold H
    clear H
    clear c3_0 c3_1 c3_2 c4_0 c4_1 c4_2
    have c0_0 := S.c 0 0 rfl rfl
    have c0_1 := S.c 0 1 rfl rfl
    have c0_2 := S.c 0 2 rfl rfl
    have c5_0 := S.c 5 0 rfl rfl
    have c5_1 := S.c 5 1 rfl rfl
    have c5_2 := S.c 5 2 rfl rfl
    go_wp2_with fail
    generalize (.tuple #[.agg #[.bool bm, .slice pm lm Km, .int .i64 em], .int .i64 0] : Value) = g2
    clear c0_0 c0_1 c0_2 c5_0 c5_1 c5_2
    refine (S.call (dsub_any (L := 400) (H := 945) (HT.out.below S.below) ⟨bm, pm, lm, Km, mm, em, rfl, hm, nm, dm⟩ (IsD.mono ⟨bA, pA, lA, KA, mA, eA, rfl, hA, nA, dA⟩ (L := 300) (H := 780) (L' := 400) (H' := 945) (by decide) (by decide)) (by decide) zx HQ.out.2.2.1)).mono ?_
    clear S
    rintro e w6 ⟨⟨_, rfl, bx, px, lx, Kx, mx, ex, rfl, hx, nx, dx⟩, S, H⟩
    replace nA := nA.hold H
    replace nB := nB.hold H
    replace nF := nF.hold H
    replace ns := ns.hold H
    replace nm := nm.hold H
    clear H
    have c0_0 := S.c 0 0 rfl rfl
    have c0_1 := S.c 0 1 rfl rfl
    have c0_2 := S.c 0 2 rfl rfl
    have c5_0 := S.c 5 0 rfl rfl
    have c5_1 := S.c 5 1 rfl rfl
    have c5_2 := S.c 5 2 rfl rfl
    have H := S.hnew 30 [.bool bx, .slice px lx Kx, .int .i64 ex]
    replace S := S.alloc 30 [.bool bx, .slice px lx Kx, .int .i64 ex] (w6.heap.size)
    try simp only [List.cons_append, List.nil_append] at S
    replace nA := nA.hold H
    replace nB := nB.hold H
    replace nF := nF.hold H
    replace ns := ns.hold H
    replace nm := nm.hold H
    replace nx := nx.hold H
    clear H
    clear c0_0 c0_1 c0_2 c5_0 c5_1 c5_2
    have c1_0 := S.c 1 0 rfl rfl
    have c1_1 := S.c 1 1 rfl rfl
    have c1_2 := S.c 1 2 rfl rfl
    have c5_0 := S.c 5 0 rfl rfl
    have c5_1 := S.c 5 1 rfl rfl
    have c5_2 := S.c 5 2 rfl rfl
    go_wp2_with fail
    generalize (.tuple #[.agg #[.bool bx, .slice px lx Kx, .int .i64 ex], .int .i64 0] : Value) = g3
    clear c1_0 c1_1 c1_2 c5_0 c5_1 c5_2
    refine (S.call (dsub_any (L := 400) (H := 945) (HT.out.below S.below) (IsD.mono ⟨bB, pB, lB, KB, mB, eB, rfl, hB, nB, dB⟩ (L := 300) (H := 780) (L' := 400) (H' := 945) (by decide) (by decide)) ⟨bm, pm, lm, Km, mm, em, rfl, hm, nm, dm⟩ (by decide) zx HQ.out.2.2.2.1)).mono ?_
    clear S
    rintro e w7 ⟨⟨_, rfl, bg, pg, lg, Kg, mg, eg, rfl, hg, ng, dg⟩, S, H⟩
    replace nA := nA.hold H
    replace nB := nB.hold H
    replace nF := nF.hold H
    replace ns := ns.hold H
    replace nm := nm.hold H
    replace nx := nx.hold H
    clear H
    have c1_0 := S.c 1 0 rfl rfl
    have c1_1 := S.c 1 1 rfl rfl
    have c1_2 := S.c 1 2 rfl rfl
    have c5_0 := S.c 5 0 rfl rfl
    have c5_1 := S.c 5 1 rfl rfl
    have c5_2 := S.c 5 2 rfl rfl
    have H := S.hnew 30 [.bool bg, .slice pg lg Kg, .int .i64 eg]
    replace S := S.alloc 30 [.bool bg, .slice pg lg Kg, .int .i64 eg] (w7.heap.size)
    try simp only [List.cons_append, List.nil_append] at S
    replace nA := nA.hold H
    replace nB := nB.hold H
    replace nF := nF.hold H
    replace ns := ns.hold H
    replace nm := nm.hold H
    replace nx := nx.hold H
    replace ng := ng.hold H
    clear H
    clear c1_0 c1_1 c1_2 c5_0 c5_1 c5_2
    have c5_0 := S.c 5 0 rfl rfl
    have c5_1 := S.c 5 1 rfl rfl
    have c5_2 := S.c 5 2 rfl rfl
    go_upto_region 10 with fail
    clear c5_0 c5_1 c5_2
    generalize (.tuple #[.agg #[.bool bg, .slice pg lg Kg, .int .i64 eg], .int .i64 0] : Value) = x4
    generalize (w7.alloc (.cells #[.bool bg, .slice pg lg Kg, .int .i64 eg] 30)) = w8 at S nA nB nF ns nm nx ng ⊢
    go_cut [14, 15] (fun s14 s15 wx => ∃ g14 bt pt lt Kt mt et, s14 = .pointer (some ⟨g14, 0, none⟩) ∧ s15 = .int .i64 0 ∧ St w wx [(w.heap.size, 30, [.bool bA, .slice pA lA KA, .int .i64 eA]), (w.heap.size + 1, 30, [.bool bB, .slice pB lB KB, .int .i64 eB]), (w1.heap.size, 30, [.bool bA, .slice pA lA KA, .int .i64 eA, .bool bB, .slice pB lB KB, .int .i64 eB]), (w3.heap.size, 30, [.bool bF, .slice pF lF KF, .int .i64 eF]), (w4.heap.size, 30, [.bool bs, .slice ps ls Ks, .int .i64 es]), (w5.heap.size, 30, [.bool bm, .slice pm lm Km, .int .i64 em]), (w6.heap.size, 30, [.bool bx, .slice px lx Kx, .int .i64 ex]), (w7.heap.size, 30, [.bool bg, .slice pg lg Kg, .int .i64 eg]), (g14, 30, [.bool bt, .slice pt lt Kt, .int .i64 et])] ∧ Hid (negB mt = bt) ∧ IsNat wx (.slice pt lt Kt) mt.natAbs ∧ Hid (DyF mt et zs 500 1109) ∧ Hold32 w8 wx)
    case first =>
      have HH := (Hold.drew w8).to32
      replace nA := nA.hold32 HH
      replace nB := nB.hold32 HH
      replace nF := nF.hold32 HH
      replace ns := ns.hold32 HH
      replace nm := nm.hold32 HH
      replace nx := nx.hold32 HH
      replace ng := ng.hold32 HH
      replace S := S.drew
      refine wp_region_held_drew (S := fun W => W.cell? ⟨w5.heap.size, 0, none⟩ = some (.bool bm) ∧ W.cell? ⟨w5.heap.size, 1, none⟩ = some (.slice pm lm Km) ∧ W.cell? ⟨w5.heap.size, 2, none⟩ = some (.int .i64 em)) (by kernel_rfl) ⟨S.c 5 0 rfl rfl, S.c 5 1 rfl rfl, S.c 5 2 rfl rfl⟩ (fun hS => ?_)
      generalize w8.drew = w9 at S nA nB nF ns nm nx ng HH hS ⊢
      refine wpAnyH_take (i := 0) (v := ?_) ((List.getElem?_toArray ..).trans rfl) (by kernel_rfl) (by kernel_rfl) (by kernel_rfl) (fun _ _ _ h => h) (Or.inl ⟨rfl, fun W hW => ?_⟩) hS ?_
      rotate_left
      · obtain ⟨hW0, hW1, hW2⟩ := hW; go_simp; try first | rfl | (rw [if_neg (by first | omega | (simp only [ByteArray.size_append]; first | omega | (have h1 : (ByteArray.mk #[47]).size = 1 := rfl; omega)))]; try rfl) | kernel_rfl
      try simp only [Act.put, List.setIfInBounds_toArray, List.set_cons_zero, List.set_cons_succ]
      refine wpAnyH_ready (rs := [1, 6]) (by kernel_rfl) (by simp) (AllReadyH.cons ((List.getElem?_toArray ..).trans rfl) (fun KK hKK => ?_) (AllReadyH.cons ((List.getElem?_toArray ..).trans rfl) (fun KK hKK => ?_) AllReadyH.nil))
      ·
        go_simp
        clear hS
        refine (S.call (dof_any 1 1 _ (HT.out.below S.below) (by decide) (by decide) (by decide) (by decide) 2 two_dq)).mono ?_
        clear S
        rintro e w10 ⟨⟨_, rfl, bG, pG, lG, KG, mG, eG, rfl, hG, nG, dG⟩, S, H⟩
        replace nA := nA.hold H
        replace nB := nB.hold H
        replace nF := nF.hold H
        replace ns := ns.hold H
        replace nm := nm.hold H
        replace nx := nx.hold H
        replace ng := ng.hold H
        replace HH := HH.trans H.to32
        clear H
        go_wp2_with fail
        refine hKK.out _ _ ⟨S.c 5 0 rfl rfl, S.c 5 1 rfl rfl, S.c 5 2 rfl rfl⟩ (fun hS => ?_)
        clear hKK KK
        try simp only [Act.put, List.setIfInBounds_toArray, List.set_cons_zero, List.set_cons_succ]
        refine wpAnyH_ready (rs := [2, 6]) (by kernel_rfl) (by simp) (AllReadyH.cons ((List.getElem?_toArray ..).trans rfl) (fun KK hKK => ?_) (AllReadyH.cons ((List.getElem?_toArray ..).trans rfl) (fun KK hKK => ?_) AllReadyH.nil))
        ·
          go_simp
          clear hS
          refine (S.call (dmul_any (L := 400) (H := 945) (HT.out.below S.below) ⟨bm, pm, lm, Km, mm, em, rfl, hm, nm, dm⟩ ⟨bG, pG, lG, KG, mG, eG, rfl, hG, nG, dG⟩ (by decide) zs HQ.out.2.2.2.2.1)).mono ?_
          clear S
          rintro e w11 ⟨⟨_, rfl, bt, pt, lt, Kt, mt, et, rfl, ht, nt, dt⟩, S, H⟩
          replace nA := nA.hold H
          replace nB := nB.hold H
          replace nF := nF.hold H
          replace ns := ns.hold H
          replace nm := nm.hold H
          replace nx := nx.hold H
          replace ng := ng.hold H
          replace nG := nG.hold H
          replace HH := HH.trans H.to32
          clear H
          go_wp2_with fail
          refine hKK.out _ _ ⟨S.c 5 0 rfl rfl, S.c 5 1 rfl rfl, S.c 5 2 rfl rfl⟩ (fun hS => ?_)
          clear hKK KK
          try simp only [Act.put, List.setIfInBounds_toArray, List.set_cons_zero, List.set_cons_succ]
          refine wpAnyH_take (i := 3) (v := ?_) ((List.getElem?_toArray ..).trans rfl) (by kernel_rfl) (by kernel_rfl) (by kernel_rfl) (fun _ _ _ h => h) (Or.inl ⟨rfl, fun W hW => ?_⟩) hS ?_
          rotate_left
          · obtain ⟨hW0, hW1, hW2⟩ := hW; go_simp; try first | rfl | (rw [if_neg (by first | omega | (simp only [ByteArray.size_append]; first | omega | (have h1 : (ByteArray.mk #[47]).size = 1 := rfl; omega)))]; try rfl) | kernel_rfl
          try simp only [Act.put, List.setIfInBounds_toArray, List.set_cons_zero, List.set_cons_succ]
          refine wpAnyH_take (i := 4) (v := ?_) ((List.getElem?_toArray ..).trans rfl) (by kernel_rfl) (by kernel_rfl) (by kernel_rfl) (fun _ _ _ h => h) (Or.inl ⟨rfl, fun W hW => ?_⟩) hS ?_
          rotate_left
          · obtain ⟨hW0, hW1, hW2⟩ := hW; go_simp; try first | rfl | (rw [if_neg (by first | omega | (simp only [ByteArray.size_append]; first | omega | (have h1 : (ByteArray.mk #[47]).size = 1 := rfl; omega)))]; try rfl) | kernel_rfl
          try simp only [Act.put, List.setIfInBounds_toArray, List.set_cons_zero, List.set_cons_succ]
          refine wpAnyH_take (i := 5) (v := ?_) ((List.getElem?_toArray ..).trans rfl) (by kernel_rfl) (by kernel_rfl) (by kernel_rfl) (fun _ _ _ h => h) (Or.inl ⟨rfl, fun W hW => ?_⟩) hS ?_
          rotate_left
          · obtain ⟨hW0, hW1, hW2⟩ := hW; go_simp; try first | rfl | (rw [if_neg (by first | omega | (simp only [ByteArray.size_append]; first | omega | (have h1 : (ByteArray.mk #[47]).size = 1 := rfl; omega)))]; try rfl) | kernel_rfl
          try simp only [Act.put, List.setIfInBounds_toArray, List.set_cons_zero, List.set_cons_succ]
          refine wpAnyH_ready (rs := [6]) (by kernel_rfl) (by simp) (AllReadyH.cons ((List.getElem?_toArray ..).trans rfl) (fun KK hKK => ?_) AllReadyH.nil)
          go_simp
          clear hS
          have H := S.hnew 30 [.bool false, .slice none 0 0, .int .i64 0]
          replace S := S.alloc 30 [.bool false, .slice none 0 0, .int .i64 0] (w11.heap.size)
          try simp only [List.cons_append, List.nil_append] at S
          replace nA := nA.hold H
          replace nB := nB.hold H
          replace nF := nF.hold H
          replace ns := ns.hold H
          replace nm := nm.hold H
          replace nx := nx.hold H
          replace ng := ng.hold H
          replace nG := nG.hold H
          replace nt := nt.hold H
          replace HH := HH.trans H.to32
          clear H
          refine hKK.out _ _ ⟨S.c 5 0 rfl rfl, S.c 5 1 rfl rfl, S.c 5 2 rfl rfl⟩ (fun hS => ?_)
          generalize (w11.alloc (.cells #[.bool false, .slice none 0 0, .int .i64 0] 30)) = w12 at S nA nB nF ns nm nx ng nG nt HH hS ⊢
          clear hKK KK
          try simp only [Act.put, List.setIfInBounds_toArray, List.set_cons_zero, List.set_cons_succ]
          refine wpAnyH_ready (rs := [7]) (by kernel_rfl) (by simp) (AllReadyH.cons ((List.getElem?_toArray ..).trans rfl) (fun KK hKK => ?_) AllReadyH.nil)
          have c0 := S.c 8 0 rfl rfl
          have f0 := S.f 8 0 rfl
          have c1 := S.c 8 1 rfl rfl
          have f1 := S.f 8 1 rfl
          have c2 := S.c 8 2 rfl rfl
          have f2 := S.f 8 2 rfl
          go_simp
          clear hS c0 f0 c1 f1 c2 f2
          have H := S.hset 8 0 (.bool bt) rfl rfl (by intro q n e; cases e)
          replace S := S.set 8 0 (.bool bt) rfl
          replace nA := nA.hold H
          replace nB := nB.hold H
          replace nF := nF.hold H
          replace ns := ns.hold H
          replace nm := nm.hold H
          replace nx := nx.hold H
          replace ng := ng.hold H
          replace nG := nG.hold H
          replace nt := nt.hold H
          replace HH := HH.trans H.to32
          clear H
          have H := S.hset 8 1 (.slice pt lt Kt) rfl rfl (by intro q n e; cases e)
          replace S := S.set 8 1 (.slice pt lt Kt) rfl
          replace nA := nA.hold H
          replace nB := nB.hold H
          replace nF := nF.hold H
          replace ns := ns.hold H
          replace nm := nm.hold H
          replace nx := nx.hold H
          replace ng := ng.hold H
          replace nG := nG.hold H
          replace nt := nt.hold H
          replace HH := HH.trans H.to32
          clear H
          have H := S.hset32 8 2 (.int .i64 et) rfl rfl (by intro n e; cases e)
          replace S := S.set 8 2 (.int .i64 et) rfl
          replace nA := nA.hold32 H
          replace nB := nB.hold32 H
          replace nF := nF.hold32 H
          replace ns := ns.hold32 H
          replace nm := nm.hold32 H
          replace nx := nx.hold32 H
          replace ng := ng.hold32 H
          replace nG := nG.hold32 H
          replace nt := nt.hold32 H
          replace HH := HH.trans H
          clear H
          refine hKK.out _ _ ⟨S.c 5 0 rfl rfl, S.c 5 1 rfl rfl, S.c 5 2 rfl rfl⟩ (fun hS => ?_)
          generalize (((w12.setCell ⟨w11.heap.size, 0, none⟩ (.bool bt)).setCell ⟨w11.heap.size, 1, none⟩ (.slice pt lt Kt)).setCell ⟨w11.heap.size, 2, none⟩ (.int .i64 et)) = w13 at S nA nB nF ns nm nx ng nG nt HH hS ⊢
          clear hKK KK
          try simp only [Act.put, List.setIfInBounds_toArray, List.set_cons_zero, List.set_cons_succ]
          refine wpAnyH_ready (rs := [8]) (by kernel_rfl) (by simp) (AllReadyH.cons ((List.getElem?_toArray ..).trans rfl) (fun KK hKK => ?_) AllReadyH.nil)
          go_simp
          refine hKK.out _ _ hS (fun hS => ?_)
          clear hKK KK
          try simp only [Act.put, List.setIfInBounds_toArray, List.set_cons_zero, List.set_cons_succ]
          refine wpAnyH_done (by kernel_rfl) ?_ _
          go_wp2_with fail
          go_meet
          case rel => exact ⟨w11.heap.size, bt, pt, lt, Kt, mt, et, rfl, rfl, S, ht, nt, dt, HH⟩
        ·
          go_simp
          clear hS
          have H := S.hnew 30 [.bool false, .slice none 0 0, .int .i64 0]
          replace S := S.alloc 30 [.bool false, .slice none 0 0, .int .i64 0] (w10.heap.size)
          try simp only [List.cons_append, List.nil_append] at S
          replace nA := nA.hold H
          replace nB := nB.hold H
          replace nF := nF.hold H
          replace ns := ns.hold H
          replace nm := nm.hold H
          replace nx := nx.hold H
          replace ng := ng.hold H
          replace nG := nG.hold H
          replace HH := HH.trans H.to32
          clear H
          refine hKK.out _ _ ⟨S.c 5 0 rfl rfl, S.c 5 1 rfl rfl, S.c 5 2 rfl rfl⟩ (fun hS => ?_)
          generalize (w10.alloc (.cells #[.bool false, .slice none 0 0, .int .i64 0] 30)) = w14 at S nA nB nF ns nm nx ng nG HH hS ⊢
          clear hKK KK
          try simp only [Act.put, List.setIfInBounds_toArray, List.set_cons_zero, List.set_cons_succ]
          refine wpAnyH_ready (rs := [2]) (by kernel_rfl) (by simp) (AllReadyH.cons ((List.getElem?_toArray ..).trans rfl) (fun KK hKK => ?_) AllReadyH.nil)
          go_simp
          clear hS
          refine (S.call (dmul_any (L := 400) (H := 945) (HT.out.below S.below) ⟨bm, pm, lm, Km, mm, em, rfl, hm, nm, dm⟩ ⟨bG, pG, lG, KG, mG, eG, rfl, hG, nG, dG⟩ (by decide) zs HQ.out.2.2.2.2.1)).mono ?_
          clear S
          rintro e w15 ⟨⟨_, rfl, bt, pt, lt, Kt, mt, et, rfl, ht, nt, dt⟩, S, H⟩
          replace nA := nA.hold H
          replace nB := nB.hold H
          replace nF := nF.hold H
          replace ns := ns.hold H
          replace nm := nm.hold H
          replace nx := nx.hold H
          replace ng := ng.hold H
          replace nG := nG.hold H
          replace HH := HH.trans H.to32
          clear H
          go_wp2_with fail
          refine hKK.out _ _ ⟨S.c 5 0 rfl rfl, S.c 5 1 rfl rfl, S.c 5 2 rfl rfl⟩ (fun hS => ?_)
          clear hKK KK
          try simp only [Act.put, List.setIfInBounds_toArray, List.set_cons_zero, List.set_cons_succ]
          refine wpAnyH_take (i := 3) (v := ?_) ((List.getElem?_toArray ..).trans rfl) (by kernel_rfl) (by kernel_rfl) (by kernel_rfl) (fun _ _ _ h => h) (Or.inl ⟨rfl, fun W hW => ?_⟩) hS ?_
          rotate_left
          · obtain ⟨hW0, hW1, hW2⟩ := hW; go_simp; try first | rfl | (rw [if_neg (by first | omega | (simp only [ByteArray.size_append]; first | omega | (have h1 : (ByteArray.mk #[47]).size = 1 := rfl; omega)))]; try rfl) | kernel_rfl
          try simp only [Act.put, List.setIfInBounds_toArray, List.set_cons_zero, List.set_cons_succ]
          refine wpAnyH_take (i := 4) (v := ?_) ((List.getElem?_toArray ..).trans rfl) (by kernel_rfl) (by kernel_rfl) (by kernel_rfl) (fun _ _ _ h => h) (Or.inl ⟨rfl, fun W hW => ?_⟩) hS ?_
          rotate_left
          · obtain ⟨hW0, hW1, hW2⟩ := hW; go_simp; try first | rfl | (rw [if_neg (by first | omega | (simp only [ByteArray.size_append]; first | omega | (have h1 : (ByteArray.mk #[47]).size = 1 := rfl; omega)))]; try rfl) | kernel_rfl
          try simp only [Act.put, List.setIfInBounds_toArray, List.set_cons_zero, List.set_cons_succ]
          refine wpAnyH_take (i := 5) (v := ?_) ((List.getElem?_toArray ..).trans rfl) (by kernel_rfl) (by kernel_rfl) (by kernel_rfl) (fun _ _ _ h => h) (Or.inl ⟨rfl, fun W hW => ?_⟩) hS ?_
          rotate_left
          · obtain ⟨hW0, hW1, hW2⟩ := hW; go_simp; try first | rfl | (rw [if_neg (by first | omega | (simp only [ByteArray.size_append]; first | omega | (have h1 : (ByteArray.mk #[47]).size = 1 := rfl; omega)))]; try rfl) | kernel_rfl
          try simp only [Act.put, List.setIfInBounds_toArray, List.set_cons_zero, List.set_cons_succ]
          refine wpAnyH_ready (rs := [7]) (by kernel_rfl) (by simp) (AllReadyH.cons ((List.getElem?_toArray ..).trans rfl) (fun KK hKK => ?_) AllReadyH.nil)
          have c0 := S.c 8 0 rfl rfl
          have f0 := S.f 8 0 rfl
          have c1 := S.c 8 1 rfl rfl
          have f1 := S.f 8 1 rfl
          have c2 := S.c 8 2 rfl rfl
          have f2 := S.f 8 2 rfl
          go_simp
          clear hS c0 f0 c1 f1 c2 f2
          have H := S.hset 8 0 (.bool bt) rfl rfl (by intro q n e; cases e)
          replace S := S.set 8 0 (.bool bt) rfl
          replace nA := nA.hold H
          replace nB := nB.hold H
          replace nF := nF.hold H
          replace ns := ns.hold H
          replace nm := nm.hold H
          replace nx := nx.hold H
          replace ng := ng.hold H
          replace nG := nG.hold H
          replace nt := nt.hold H
          replace HH := HH.trans H.to32
          clear H
          have H := S.hset 8 1 (.slice pt lt Kt) rfl rfl (by intro q n e; cases e)
          replace S := S.set 8 1 (.slice pt lt Kt) rfl
          replace nA := nA.hold H
          replace nB := nB.hold H
          replace nF := nF.hold H
          replace ns := ns.hold H
          replace nm := nm.hold H
          replace nx := nx.hold H
          replace ng := ng.hold H
          replace nG := nG.hold H
          replace nt := nt.hold H
          replace HH := HH.trans H.to32
          clear H
          have H := S.hset32 8 2 (.int .i64 et) rfl rfl (by intro n e; cases e)
          replace S := S.set 8 2 (.int .i64 et) rfl
          replace nA := nA.hold32 H
          replace nB := nB.hold32 H
          replace nF := nF.hold32 H
          replace ns := ns.hold32 H
          replace nm := nm.hold32 H
          replace nx := nx.hold32 H
          replace ng := ng.hold32 H
          replace nG := nG.hold32 H
          replace nt := nt.hold32 H
          replace HH := HH.trans H
          clear H
          refine hKK.out _ _ ⟨S.c 5 0 rfl rfl, S.c 5 1 rfl rfl, S.c 5 2 rfl rfl⟩ (fun hS => ?_)
          generalize (((w15.setCell ⟨w10.heap.size, 0, none⟩ (.bool bt)).setCell ⟨w10.heap.size, 1, none⟩ (.slice pt lt Kt)).setCell ⟨w10.heap.size, 2, none⟩ (.int .i64 et)) = w16 at S nA nB nF ns nm nx ng nG nt HH hS ⊢
          clear hKK KK
          try simp only [Act.put, List.setIfInBounds_toArray, List.set_cons_zero, List.set_cons_succ]
          refine wpAnyH_ready (rs := [8]) (by kernel_rfl) (by simp) (AllReadyH.cons ((List.getElem?_toArray ..).trans rfl) (fun KK hKK => ?_) AllReadyH.nil)
          go_simp
          refine hKK.out _ _ hS (fun hS => ?_)
          clear hKK KK
          try simp only [Act.put, List.setIfInBounds_toArray, List.set_cons_zero, List.set_cons_succ]
          refine wpAnyH_done (by kernel_rfl) ?_ _
          go_wp2_with fail
          go_meet
          case rel => exact ⟨w10.heap.size, bt, pt, lt, Kt, mt, et, rfl, rfl, S, ht, nt, dt, HH⟩
      ·
        go_simp
        clear hS
        have H := S.hnew 30 [.bool false, .slice none 0 0, .int .i64 0]
        replace S := S.alloc 30 [.bool false, .slice none 0 0, .int .i64 0] (w9.heap.size)
        try simp only [List.cons_append, List.nil_append] at S
        replace nA := nA.hold H
        replace nB := nB.hold H
        replace nF := nF.hold H
        replace ns := ns.hold H
        replace nm := nm.hold H
        replace nx := nx.hold H
        replace ng := ng.hold H
        replace HH := HH.trans H.to32
        clear H
        refine hKK.out _ _ ⟨S.c 5 0 rfl rfl, S.c 5 1 rfl rfl, S.c 5 2 rfl rfl⟩ (fun hS => ?_)
        generalize (w9.alloc (.cells #[.bool false, .slice none 0 0, .int .i64 0] 30)) = w17 at S nA nB nF ns nm nx ng HH hS ⊢
        clear hKK KK
        try simp only [Act.put, List.setIfInBounds_toArray, List.set_cons_zero, List.set_cons_succ]
        refine wpAnyH_ready (rs := [1]) (by kernel_rfl) (by simp) (AllReadyH.cons ((List.getElem?_toArray ..).trans rfl) (fun KK hKK => ?_) AllReadyH.nil)
        go_simp
        clear hS
        refine (S.call (dof_any 1 1 _ (HT.out.below S.below) (by decide) (by decide) (by decide) (by decide) 2 two_dq)).mono ?_
        clear S
        rintro e w18 ⟨⟨_, rfl, bG, pG, lG, KG, mG, eG, rfl, hG, nG, dG⟩, S, H⟩
        replace nA := nA.hold H
        replace nB := nB.hold H
        replace nF := nF.hold H
        replace ns := ns.hold H
        replace nm := nm.hold H
        replace nx := nx.hold H
        replace ng := ng.hold H
        replace HH := HH.trans H.to32
        clear H
        go_wp2_with fail
        refine hKK.out _ _ ⟨S.c 5 0 rfl rfl, S.c 5 1 rfl rfl, S.c 5 2 rfl rfl⟩ (fun hS => ?_)
        clear hKK KK
        try simp only [Act.put, List.setIfInBounds_toArray, List.set_cons_zero, List.set_cons_succ]
        refine wpAnyH_ready (rs := [2]) (by kernel_rfl) (by simp) (AllReadyH.cons ((List.getElem?_toArray ..).trans rfl) (fun KK hKK => ?_) AllReadyH.nil)
        go_simp
        clear hS
        refine (S.call (dmul_any (L := 400) (H := 945) (HT.out.below S.below) ⟨bm, pm, lm, Km, mm, em, rfl, hm, nm, dm⟩ ⟨bG, pG, lG, KG, mG, eG, rfl, hG, nG, dG⟩ (by decide) zs HQ.out.2.2.2.2.1)).mono ?_
        clear S
        rintro e w19 ⟨⟨_, rfl, bt, pt, lt, Kt, mt, et, rfl, ht, nt, dt⟩, S, H⟩
        replace nA := nA.hold H
        replace nB := nB.hold H
        replace nF := nF.hold H
        replace ns := ns.hold H
        replace nm := nm.hold H
        replace nx := nx.hold H
        replace ng := ng.hold H
        replace nG := nG.hold H
        replace HH := HH.trans H.to32
        clear H
        go_wp2_with fail
        refine hKK.out _ _ ⟨S.c 5 0 rfl rfl, S.c 5 1 rfl rfl, S.c 5 2 rfl rfl⟩ (fun hS => ?_)
        clear hKK KK
        try simp only [Act.put, List.setIfInBounds_toArray, List.set_cons_zero, List.set_cons_succ]
        refine wpAnyH_take (i := 3) (v := ?_) ((List.getElem?_toArray ..).trans rfl) (by kernel_rfl) (by kernel_rfl) (by kernel_rfl) (fun _ _ _ h => h) (Or.inl ⟨rfl, fun W hW => ?_⟩) hS ?_
        rotate_left
        · obtain ⟨hW0, hW1, hW2⟩ := hW; go_simp; try first | rfl | (rw [if_neg (by first | omega | (simp only [ByteArray.size_append]; first | omega | (have h1 : (ByteArray.mk #[47]).size = 1 := rfl; omega)))]; try rfl) | kernel_rfl
        try simp only [Act.put, List.setIfInBounds_toArray, List.set_cons_zero, List.set_cons_succ]
        refine wpAnyH_take (i := 4) (v := ?_) ((List.getElem?_toArray ..).trans rfl) (by kernel_rfl) (by kernel_rfl) (by kernel_rfl) (fun _ _ _ h => h) (Or.inl ⟨rfl, fun W hW => ?_⟩) hS ?_
        rotate_left
        · obtain ⟨hW0, hW1, hW2⟩ := hW; go_simp; try first | rfl | (rw [if_neg (by first | omega | (simp only [ByteArray.size_append]; first | omega | (have h1 : (ByteArray.mk #[47]).size = 1 := rfl; omega)))]; try rfl) | kernel_rfl
        try simp only [Act.put, List.setIfInBounds_toArray, List.set_cons_zero, List.set_cons_succ]
        refine wpAnyH_take (i := 5) (v := ?_) ((List.getElem?_toArray ..).trans rfl) (by kernel_rfl) (by kernel_rfl) (by kernel_rfl) (fun _ _ _ h => h) (Or.inl ⟨rfl, fun W hW => ?_⟩) hS ?_
        rotate_left
        · obtain ⟨hW0, hW1, hW2⟩ := hW; go_simp; try first | rfl | (rw [if_neg (by first | omega | (simp only [ByteArray.size_append]; first | omega | (have h1 : (ByteArray.mk #[47]).size = 1 := rfl; omega)))]; try rfl) | kernel_rfl
        try simp only [Act.put, List.setIfInBounds_toArray, List.set_cons_zero, List.set_cons_succ]
        refine wpAnyH_ready (rs := [7]) (by kernel_rfl) (by simp) (AllReadyH.cons ((List.getElem?_toArray ..).trans rfl) (fun KK hKK => ?_) AllReadyH.nil)
        have c0 := S.c 8 0 rfl rfl
        have f0 := S.f 8 0 rfl
        have c1 := S.c 8 1 rfl rfl
        have f1 := S.f 8 1 rfl
        have c2 := S.c 8 2 rfl rfl
        have f2 := S.f 8 2 rfl
        go_simp
        clear hS c0 f0 c1 f1 c2 f2
        have H := S.hset 8 0 (.bool bt) rfl rfl (by intro q n e; cases e)
        replace S := S.set 8 0 (.bool bt) rfl
        replace nA := nA.hold H
        replace nB := nB.hold H
        replace nF := nF.hold H
        replace ns := ns.hold H
        replace nm := nm.hold H
        replace nx := nx.hold H
        replace ng := ng.hold H
        replace nG := nG.hold H
        replace nt := nt.hold H
        replace HH := HH.trans H.to32
        clear H
        have H := S.hset 8 1 (.slice pt lt Kt) rfl rfl (by intro q n e; cases e)
        replace S := S.set 8 1 (.slice pt lt Kt) rfl
        replace nA := nA.hold H
        replace nB := nB.hold H
        replace nF := nF.hold H
        replace ns := ns.hold H
        replace nm := nm.hold H
        replace nx := nx.hold H
        replace ng := ng.hold H
        replace nG := nG.hold H
        replace nt := nt.hold H
        replace HH := HH.trans H.to32
        clear H
        have H := S.hset32 8 2 (.int .i64 et) rfl rfl (by intro n e; cases e)
        replace S := S.set 8 2 (.int .i64 et) rfl
        replace nA := nA.hold32 H
        replace nB := nB.hold32 H
        replace nF := nF.hold32 H
        replace ns := ns.hold32 H
        replace nm := nm.hold32 H
        replace nx := nx.hold32 H
        replace ng := ng.hold32 H
        replace nG := nG.hold32 H
        replace nt := nt.hold32 H
        replace HH := HH.trans H
        clear H
        refine hKK.out _ _ ⟨S.c 5 0 rfl rfl, S.c 5 1 rfl rfl, S.c 5 2 rfl rfl⟩ (fun hS => ?_)
        generalize (((w19.setCell ⟨w9.heap.size, 0, none⟩ (.bool bt)).setCell ⟨w9.heap.size, 1, none⟩ (.slice pt lt Kt)).setCell ⟨w9.heap.size, 2, none⟩ (.int .i64 et)) = w20 at S nA nB nF ns nm nx ng nG nt HH hS ⊢
        clear hKK KK
        try simp only [Act.put, List.setIfInBounds_toArray, List.set_cons_zero, List.set_cons_succ]
        refine wpAnyH_ready (rs := [8]) (by kernel_rfl) (by simp) (AllReadyH.cons ((List.getElem?_toArray ..).trans rfl) (fun KK hKK => ?_) AllReadyH.nil)
        go_simp
        refine hKK.out _ _ hS (fun hS => ?_)
        clear hKK KK
        try simp only [Act.put, List.setIfInBounds_toArray, List.set_cons_zero, List.set_cons_succ]
        refine wpAnyH_done (by kernel_rfl) ?_ _
        go_wp2_with fail
        go_meet
        case rel => exact ⟨w9.heap.size, bt, pt, lt, Kt, mt, et, rfl, rfl, S, ht, nt, dt, HH⟩
    case rest =>
      obtain ⟨g14, bt, pt, lt, Kt, mt, et, rfl, rfl, S, ht, nt, dt, HH⟩ := hcut
      obtain ⟨w21, rfl⟩ : ∃ W : World, W = wc := ⟨_, rfl⟩
      replace nA := nA.hold32 HH
      replace nB := nB.hold32 HH
      replace nF := nF.hold32 HH
      replace ns := ns.hold32 HH
      replace nm := nm.hold32 HH
      replace nx := nx.hold32 HH
      replace ng := ng.hold32 HH
      clear HH
      have c0_0 := S.c 0 0 rfl rfl
      have c0_1 := S.c 0 1 rfl rfl
      have c0_2 := S.c 0 2 rfl rfl
      have c1_0 := S.c 1 0 rfl rfl
      have c1_1 := S.c 1 1 rfl rfl
      have c1_2 := S.c 1 2 rfl rfl
      have c4_0 := S.c 4 0 rfl rfl
      have c4_1 := S.c 4 1 rfl rfl
      have c4_2 := S.c 4 2 rfl rfl
      have c6_0 := S.c 6 0 rfl rfl
      have c6_1 := S.c 6 1 rfl rfl
      have c6_2 := S.c 6 2 rfl rfl
      have c7_0 := S.c 7 0 rfl rfl
      have c7_1 := S.c 7 1 rfl rfl
      have c7_2 := S.c 7 2 rfl rfl
      have c8_0 := S.c 8 0 rfl rfl
      have c8_1 := S.c 8 1 rfl rfl
      have c8_2 := S.c 8 2 rfl rfl
      go_upto_region 11 with fail
      clear c0_0 c0_1 c0_2 c1_0 c1_1 c1_2 c4_0 c4_1 c4_2 c6_0 c6_1 c6_2 c7_0 c7_1 c7_2 c8_0 c8_1 c8_2
      replace nA := nA.hold (Hold.drew _)
      replace nB := nB.hold (Hold.drew _)
      replace nF := nF.hold (Hold.drew _)
      replace ns := ns.hold (Hold.drew _)
      replace nm := nm.hold (Hold.drew _)
      replace nx := nx.hold (Hold.drew _)
      replace ng := ng.hold (Hold.drew _)
      replace nt := nt.hold (Hold.drew _)
      replace S := S.drew
      refine wp_region_held_drew (S := fun W => W.cell? ⟨w.heap.size, 0, none⟩ = some (.bool bA) ∧ W.cell? ⟨w.heap.size, 1, none⟩ = some (.slice pA lA KA) ∧ W.cell? ⟨w.heap.size, 2, none⟩ = some (.int .i64 eA) ∧ W.cell? ⟨w.heap.size + 1, 0, none⟩ = some (.bool bB) ∧ W.cell? ⟨w.heap.size + 1, 1, none⟩ = some (.slice pB lB KB) ∧ W.cell? ⟨w.heap.size + 1, 2, none⟩ = some (.int .i64 eB) ∧ W.cell? ⟨w4.heap.size, 0, none⟩ = some (.bool bs) ∧ W.cell? ⟨w4.heap.size, 1, none⟩ = some (.slice ps ls Ks) ∧ W.cell? ⟨w4.heap.size, 2, none⟩ = some (.int .i64 es) ∧ W.cell? ⟨w6.heap.size, 0, none⟩ = some (.bool bx) ∧ W.cell? ⟨w6.heap.size, 1, none⟩ = some (.slice px lx Kx) ∧ W.cell? ⟨w6.heap.size, 2, none⟩ = some (.int .i64 ex) ∧ W.cell? ⟨w7.heap.size, 0, none⟩ = some (.bool bg) ∧ W.cell? ⟨w7.heap.size, 1, none⟩ = some (.slice pg lg Kg) ∧ W.cell? ⟨w7.heap.size, 2, none⟩ = some (.int .i64 eg) ∧ W.cell? ⟨g14, 0, none⟩ = some (.bool bt) ∧ W.cell? ⟨g14, 1, none⟩ = some (.slice pt lt Kt) ∧ W.cell? ⟨g14, 2, none⟩ = some (.int .i64 et)) (by kernel_rfl) ⟨S.c 0 0 rfl rfl, S.c 0 1 rfl rfl, S.c 0 2 rfl rfl, S.c 1 0 rfl rfl, S.c 1 1 rfl rfl, S.c 1 2 rfl rfl, S.c 4 0 rfl rfl, S.c 4 1 rfl rfl, S.c 4 2 rfl rfl, S.c 6 0 rfl rfl, S.c 6 1 rfl rfl, S.c 6 2 rfl rfl, S.c 7 0 rfl rfl, S.c 7 1 rfl rfl, S.c 7 2 rfl rfl, S.c 8 0 rfl rfl, S.c 8 1 rfl rfl, S.c 8 2 rfl rfl⟩ (fun hS => ?_)
      refine wpAnyH_take (i := 0) (v := ?_) ((List.getElem?_toArray ..).trans rfl) (by kernel_rfl) (by kernel_rfl) (by kernel_rfl) (fun _ _ _ h => h) (Or.inl ⟨rfl, fun W hW => ?_⟩) hS ?_
      rotate_left
      · obtain ⟨hW0, hW1, hW2, hW3, hW4, hW5, hW6, hW7, hW8, hW9, hW10, hW11, hW12, hW13, hW14, hW15, hW16, hW17⟩ := hW; go_simp; try first | rfl | (rw [if_neg (by first | omega | (simp only [ByteArray.size_append]; first | omega | (have h1 : (ByteArray.mk #[47]).size = 1 := rfl; omega)))]; try rfl) | kernel_rfl
      try simp only [Act.put, List.setIfInBounds_toArray, List.set_cons_zero, List.set_cons_succ]
      refine wpAnyH_take (i := 1) (v := ?_) ((List.getElem?_toArray ..).trans rfl) (by kernel_rfl) (by kernel_rfl) (by kernel_rfl) (fun _ _ _ h => h) (Or.inl ⟨rfl, fun W hW => ?_⟩) hS ?_
      rotate_left
      · obtain ⟨hW0, hW1, hW2, hW3, hW4, hW5, hW6, hW7, hW8, hW9, hW10, hW11, hW12, hW13, hW14, hW15, hW16, hW17⟩ := hW; go_simp; try first | rfl | (rw [if_neg (by first | omega | (simp only [ByteArray.size_append]; first | omega | (have h1 : (ByteArray.mk #[47]).size = 1 := rfl; omega)))]; try rfl) | kernel_rfl
      try simp only [Act.put, List.setIfInBounds_toArray, List.set_cons_zero, List.set_cons_succ]
      refine wpAnyH_take (i := 2) (v := ?_) ((List.getElem?_toArray ..).trans rfl) (by kernel_rfl) (by kernel_rfl) (by kernel_rfl) (fun _ _ _ h => h) (Or.inl ⟨rfl, fun W hW => ?_⟩) hS ?_
      rotate_left
      · obtain ⟨hW0, hW1, hW2, hW3, hW4, hW5, hW6, hW7, hW8, hW9, hW10, hW11, hW12, hW13, hW14, hW15, hW16, hW17⟩ := hW; go_simp; try first | rfl | (rw [if_neg (by first | omega | (simp only [ByteArray.size_append]; first | omega | (have h1 : (ByteArray.mk #[47]).size = 1 := rfl; omega)))]; try rfl) | kernel_rfl
      try simp only [Act.put, List.setIfInBounds_toArray, List.set_cons_zero, List.set_cons_succ]
      refine wpAnyH_take (i := 3) (v := ?_) ((List.getElem?_toArray ..).trans rfl) (by kernel_rfl) (by kernel_rfl) (by kernel_rfl) (fun _ _ _ h => h) (Or.inl ⟨rfl, fun W hW => ?_⟩) hS ?_
      rotate_left
      · obtain ⟨hW0, hW1, hW2, hW3, hW4, hW5, hW6, hW7, hW8, hW9, hW10, hW11, hW12, hW13, hW14, hW15, hW16, hW17⟩ := hW; go_simp; try first | rfl | (rw [if_neg (by first | omega | (simp only [ByteArray.size_append]; first | omega | (have h1 : (ByteArray.mk #[47]).size = 1 := rfl; omega)))]; try rfl) | kernel_rfl
      try simp only [Act.put, List.setIfInBounds_toArray, List.set_cons_zero, List.set_cons_succ]
      refine wpAnyH_take (i := 4) (v := ?_) ((List.getElem?_toArray ..).trans rfl) (by kernel_rfl) (by kernel_rfl) (by kernel_rfl) (fun _ _ _ h => h) (Or.inl ⟨rfl, fun W hW => ?_⟩) hS ?_
      rotate_left
      · obtain ⟨hW0, hW1, hW2, hW3, hW4, hW5, hW6, hW7, hW8, hW9, hW10, hW11, hW12, hW13, hW14, hW15, hW16, hW17⟩ := hW; go_simp; try first | rfl | (rw [if_neg (by first | omega | (simp only [ByteArray.size_append]; first | omega | (have h1 : (ByteArray.mk #[47]).size = 1 := rfl; omega)))]; try rfl) | kernel_rfl
      try simp only [Act.put, List.setIfInBounds_toArray, List.set_cons_zero, List.set_cons_succ]
      refine wpAnyH_take (i := 5) (v := ?_) ((List.getElem?_toArray ..).trans rfl) (by kernel_rfl) (by kernel_rfl) (by kernel_rfl) (fun _ _ _ h => h) (Or.inl ⟨rfl, fun W hW => ?_⟩) hS ?_
      rotate_left
      · obtain ⟨hW0, hW1, hW2, hW3, hW4, hW5, hW6, hW7, hW8, hW9, hW10, hW11, hW12, hW13, hW14, hW15, hW16, hW17⟩ := hW; go_simp; try first | rfl | (rw [if_neg (by first | omega | (simp only [ByteArray.size_append]; first | omega | (have h1 : (ByteArray.mk #[47]).size = 1 := rfl; omega)))]; try rfl) | kernel_rfl
      try simp only [Act.put, List.setIfInBounds_toArray, List.set_cons_zero, List.set_cons_succ]
      refine wpAnyH_take (i := 6) (v := ?_) ((List.getElem?_toArray ..).trans rfl) (by kernel_rfl) (by kernel_rfl) (by kernel_rfl) (fun _ _ _ h => h) (Or.inl ⟨rfl, fun W hW => ?_⟩) hS ?_
      rotate_left
      · obtain ⟨hW0, hW1, hW2, hW3, hW4, hW5, hW6, hW7, hW8, hW9, hW10, hW11, hW12, hW13, hW14, hW15, hW16, hW17⟩ := hW; go_simp; try first | rfl | (rw [if_neg (by first | omega | (simp only [ByteArray.size_append]; first | omega | (have h1 : (ByteArray.mk #[47]).size = 1 := rfl; omega)))]; try rfl) | kernel_rfl
      try simp only [Act.put, List.setIfInBounds_toArray, List.set_cons_zero, List.set_cons_succ]
      refine wpAnyH_take (i := 7) (v := ?_) ((List.getElem?_toArray ..).trans rfl) (by kernel_rfl) (by kernel_rfl) (by kernel_rfl) (fun _ _ _ h => h) (Or.inl ⟨rfl, fun W hW => ?_⟩) hS ?_
      rotate_left
      · obtain ⟨hW0, hW1, hW2, hW3, hW4, hW5, hW6, hW7, hW8, hW9, hW10, hW11, hW12, hW13, hW14, hW15, hW16, hW17⟩ := hW; go_simp; try first | rfl | (rw [if_neg (by first | omega | (simp only [ByteArray.size_append]; first | omega | (have h1 : (ByteArray.mk #[47]).size = 1 := rfl; omega)))]; try rfl) | kernel_rfl
      try simp only [Act.put, List.setIfInBounds_toArray, List.set_cons_zero, List.set_cons_succ]
      refine wpAnyH_take (i := 8) (v := ?_) ((List.getElem?_toArray ..).trans rfl) (by kernel_rfl) (by kernel_rfl) (by kernel_rfl) (fun _ _ _ h => h) (Or.inl ⟨rfl, fun W hW => ?_⟩) hS ?_
      rotate_left
      · obtain ⟨hW0, hW1, hW2, hW3, hW4, hW5, hW6, hW7, hW8, hW9, hW10, hW11, hW12, hW13, hW14, hW15, hW16, hW17⟩ := hW; go_simp; try first | rfl | (rw [if_neg (by first | omega | (simp only [ByteArray.size_append]; first | omega | (have h1 : (ByteArray.mk #[47]).size = 1 := rfl; omega)))]; try rfl) | kernel_rfl
      try simp only [Act.put, List.setIfInBounds_toArray, List.set_cons_zero, List.set_cons_succ]
      refine wpAnyH_take (i := 9) (v := ?_) ((List.getElem?_toArray ..).trans rfl) (by kernel_rfl) (by kernel_rfl) (by kernel_rfl) (fun _ _ _ h => h) (Or.inl ⟨rfl, fun W hW => ?_⟩) hS ?_
      rotate_left
      · obtain ⟨hW0, hW1, hW2, hW3, hW4, hW5, hW6, hW7, hW8, hW9, hW10, hW11, hW12, hW13, hW14, hW15, hW16, hW17⟩ := hW; go_simp; try first | rfl | (rw [if_neg (by first | omega | (simp only [ByteArray.size_append]; first | omega | (have h1 : (ByteArray.mk #[47]).size = 1 := rfl; omega)))]; try rfl) | kernel_rfl
      try simp only [Act.put, List.setIfInBounds_toArray, List.set_cons_zero, List.set_cons_succ]
      refine wpAnyH_take (i := 10) (v := ?_) ((List.getElem?_toArray ..).trans rfl) (by kernel_rfl) (by kernel_rfl) (by kernel_rfl) (fun _ _ _ h => h) (Or.inl ⟨rfl, fun W hW => ?_⟩) hS ?_
      rotate_left
      · obtain ⟨hW0, hW1, hW2, hW3, hW4, hW5, hW6, hW7, hW8, hW9, hW10, hW11, hW12, hW13, hW14, hW15, hW16, hW17⟩ := hW; go_simp; try first | rfl | (rw [if_neg (by first | omega | (simp only [ByteArray.size_append]; first | omega | (have h1 : (ByteArray.mk #[47]).size = 1 := rfl; omega)))]; try rfl) | kernel_rfl
      try simp only [Act.put, List.setIfInBounds_toArray, List.set_cons_zero, List.set_cons_succ]
      refine wpAnyH_take (i := 11) (v := ?_) ((List.getElem?_toArray ..).trans rfl) (by kernel_rfl) (by kernel_rfl) (by kernel_rfl) (fun _ _ _ h => h) (Or.inl ⟨rfl, fun W hW => ?_⟩) hS ?_
      rotate_left
      · obtain ⟨hW0, hW1, hW2, hW3, hW4, hW5, hW6, hW7, hW8, hW9, hW10, hW11, hW12, hW13, hW14, hW15, hW16, hW17⟩ := hW; go_simp; try first | rfl | (rw [if_neg (by first | omega | (simp only [ByteArray.size_append]; first | omega | (have h1 : (ByteArray.mk #[47]).size = 1 := rfl; omega)))]; try rfl) | kernel_rfl
      try simp only [Act.put, List.setIfInBounds_toArray, List.set_cons_zero, List.set_cons_succ]
      refine wpAnyH_take (i := 12) (v := ?_) ((List.getElem?_toArray ..).trans rfl) (by kernel_rfl) (by kernel_rfl) (by kernel_rfl) (fun _ _ _ h => h) (Or.inl ⟨rfl, fun W hW => ?_⟩) hS ?_
      rotate_left
      · obtain ⟨hW0, hW1, hW2, hW3, hW4, hW5, hW6, hW7, hW8, hW9, hW10, hW11, hW12, hW13, hW14, hW15, hW16, hW17⟩ := hW; go_simp; try first | rfl | (rw [if_neg (by first | omega | (simp only [ByteArray.size_append]; first | omega | (have h1 : (ByteArray.mk #[47]).size = 1 := rfl; omega)))]; try rfl) | kernel_rfl
      try simp only [Act.put, List.setIfInBounds_toArray, List.set_cons_zero, List.set_cons_succ]
      refine wpAnyH_take (i := 13) (v := ?_) ((List.getElem?_toArray ..).trans rfl) (by kernel_rfl) (by kernel_rfl) (by kernel_rfl) (fun _ _ _ h => h) (Or.inl ⟨rfl, fun W hW => ?_⟩) hS ?_
      rotate_left
      · obtain ⟨hW0, hW1, hW2, hW3, hW4, hW5, hW6, hW7, hW8, hW9, hW10, hW11, hW12, hW13, hW14, hW15, hW16, hW17⟩ := hW; go_simp; try first | rfl | (rw [if_neg (by first | omega | (simp only [ByteArray.size_append]; first | omega | (have h1 : (ByteArray.mk #[47]).size = 1 := rfl; omega)))]; try rfl) | kernel_rfl
      try simp only [Act.put, List.setIfInBounds_toArray, List.set_cons_zero, List.set_cons_succ]
      refine wpAnyH_take (i := 14) (v := ?_) ((List.getElem?_toArray ..).trans rfl) (by kernel_rfl) (by kernel_rfl) (by kernel_rfl) (fun _ _ _ h => h) (Or.inl ⟨rfl, fun W hW => ?_⟩) hS ?_
      rotate_left
      · obtain ⟨hW0, hW1, hW2, hW3, hW4, hW5, hW6, hW7, hW8, hW9, hW10, hW11, hW12, hW13, hW14, hW15, hW16, hW17⟩ := hW; go_simp; try first | rfl | (rw [if_neg (by first | omega | (simp only [ByteArray.size_append]; first | omega | (have h1 : (ByteArray.mk #[47]).size = 1 := rfl; omega)))]; try rfl) | kernel_rfl
      try simp only [Act.put, List.setIfInBounds_toArray, List.set_cons_zero, List.set_cons_succ]
      refine wpAnyH_take (i := 15) (v := ?_) ((List.getElem?_toArray ..).trans rfl) (by kernel_rfl) (by kernel_rfl) (by kernel_rfl) (fun _ _ _ h => h) (Or.inl ⟨rfl, fun W hW => ?_⟩) hS ?_
      rotate_left
      · obtain ⟨hW0, hW1, hW2, hW3, hW4, hW5, hW6, hW7, hW8, hW9, hW10, hW11, hW12, hW13, hW14, hW15, hW16, hW17⟩ := hW; go_simp; try first | rfl | (rw [if_neg (by first | omega | (simp only [ByteArray.size_append]; first | omega | (have h1 : (ByteArray.mk #[47]).size = 1 := rfl; omega)))]; try rfl) | kernel_rfl
      try simp only [Act.put, List.setIfInBounds_toArray, List.set_cons_zero, List.set_cons_succ]
      refine wpAnyH_take (i := 16) (v := ?_) ((List.getElem?_toArray ..).trans rfl) (by kernel_rfl) (by kernel_rfl) (by kernel_rfl) (fun _ _ _ h => h) (Or.inl ⟨rfl, fun W hW => ?_⟩) hS ?_
      rotate_left
      · obtain ⟨hW0, hW1, hW2, hW3, hW4, hW5, hW6, hW7, hW8, hW9, hW10, hW11, hW12, hW13, hW14, hW15, hW16, hW17⟩ := hW; go_simp; try first | rfl | (rw [if_neg (by first | omega | (simp only [ByteArray.size_append]; first | omega | (have h1 : (ByteArray.mk #[47]).size = 1 := rfl; omega)))]; try rfl) | kernel_rfl
      try simp only [Act.put, List.setIfInBounds_toArray, List.set_cons_zero, List.set_cons_succ]
      refine wpAnyH_take (i := 17) (v := ?_) ((List.getElem?_toArray ..).trans rfl) (by kernel_rfl) (by kernel_rfl) (by kernel_rfl) (fun _ _ _ h => h) (Or.inl ⟨rfl, fun W hW => ?_⟩) hS ?_
      rotate_left
      · obtain ⟨hW0, hW1, hW2, hW3, hW4, hW5, hW6, hW7, hW8, hW9, hW10, hW11, hW12, hW13, hW14, hW15, hW16, hW17⟩ := hW; go_simp; try first | rfl | (rw [if_neg (by first | omega | (simp only [ByteArray.size_append]; first | omega | (have h1 : (ByteArray.mk #[47]).size = 1 := rfl; omega)))]; try rfl) | kernel_rfl
      try simp only [Act.put, List.setIfInBounds_toArray, List.set_cons_zero, List.set_cons_succ]
      refine wpAnyH_take (i := 18) (v := ?_) ((List.getElem?_toArray ..).trans rfl) (by kernel_rfl) (by kernel_rfl) (by kernel_rfl) (fun _ _ _ h => h) (Or.inl ⟨rfl, fun W hW => ?_⟩) hS ?_
      rotate_left
      · obtain ⟨hW0, hW1, hW2, hW3, hW4, hW5, hW6, hW7, hW8, hW9, hW10, hW11, hW12, hW13, hW14, hW15, hW16, hW17⟩ := hW; go_simp; try first | rfl | (rw [if_neg (by first | omega | (simp only [ByteArray.size_append]; first | omega | (have h1 : (ByteArray.mk #[47]).size = 1 := rfl; omega)))]; try rfl) | kernel_rfl
      try simp only [Act.put, List.setIfInBounds_toArray, List.set_cons_zero, List.set_cons_succ]
      refine wpAnyH_take (i := 19) (v := ?_) ((List.getElem?_toArray ..).trans rfl) (by kernel_rfl) (by kernel_rfl) (by kernel_rfl) (fun _ _ _ h => h) (Or.inl ⟨rfl, fun W hW => ?_⟩) hS ?_
      rotate_left
      · obtain ⟨hW0, hW1, hW2, hW3, hW4, hW5, hW6, hW7, hW8, hW9, hW10, hW11, hW12, hW13, hW14, hW15, hW16, hW17⟩ := hW; go_simp; try first | rfl | (rw [if_neg (by first | omega | (simp only [ByteArray.size_append]; first | omega | (have h1 : (ByteArray.mk #[47]).size = 1 := rfl; omega)))]; try rfl) | kernel_rfl
      try simp only [Act.put, List.setIfInBounds_toArray, List.set_cons_zero, List.set_cons_succ]
      refine wpAnyH_take (i := 20) (v := ?_) ((List.getElem?_toArray ..).trans rfl) (by kernel_rfl) (by kernel_rfl) (by kernel_rfl) (fun _ _ _ h => h) (Or.inl ⟨rfl, fun W hW => ?_⟩) hS ?_
      rotate_left
      · obtain ⟨hW0, hW1, hW2, hW3, hW4, hW5, hW6, hW7, hW8, hW9, hW10, hW11, hW12, hW13, hW14, hW15, hW16, hW17⟩ := hW; go_simp; try first | rfl | (rw [if_neg (by first | omega | (simp only [ByteArray.size_append]; first | omega | (have h1 : (ByteArray.mk #[47]).size = 1 := rfl; omega)))]; try rfl) | kernel_rfl
      try simp only [Act.put, List.setIfInBounds_toArray, List.set_cons_zero, List.set_cons_succ]
      refine wpAnyH_ready (rs := [21]) (by kernel_rfl) (by simp) (AllReadyH.cons ((List.getElem?_toArray ..).trans rfl) (fun KK hKK => ?_) AllReadyH.nil)
      go_simp
      refine (S.call (dcompare_any ⟨bx, px, lx, Kx, mx, ex, rfl, hx, nx, dx⟩ ⟨bg, pg, lg, Kg, mg, eg, rfl, hg, ng, dg⟩ (by decide) 0 (cmpR_eq zx))).mono ?_; clear S; rintro e w22 ⟨rfl, S, H⟩; replace nA := nA.hold H; replace nB := nB.hold H; replace nF := nF.hold H; replace ns := ns.hold H; replace nm := nm.hold H; replace nx := nx.hold H; replace ng := ng.hold H; replace nt := nt.hold H; clear H
      go_wp2_with fail
      refine hKK.out _ _ ⟨S.c 0 0 rfl rfl, S.c 0 1 rfl rfl, S.c 0 2 rfl rfl, S.c 1 0 rfl rfl, S.c 1 1 rfl rfl, S.c 1 2 rfl rfl, S.c 4 0 rfl rfl, S.c 4 1 rfl rfl, S.c 4 2 rfl rfl, S.c 6 0 rfl rfl, S.c 6 1 rfl rfl, S.c 6 2 rfl rfl, S.c 7 0 rfl rfl, S.c 7 1 rfl rfl, S.c 7 2 rfl rfl, S.c 8 0 rfl rfl, S.c 8 1 rfl rfl, S.c 8 2 rfl rfl⟩ (fun hS => ?_)
      clear hKK KK
      try simp only [Act.put, List.setIfInBounds_toArray, List.set_cons_zero, List.set_cons_succ]
      refine wpAnyH_take (i := 22) (v := ?_) ((List.getElem?_toArray ..).trans rfl) (by kernel_rfl) (by kernel_rfl) (by kernel_rfl) (fun _ _ _ h => h) (Or.inl ⟨rfl, fun W hW => ?_⟩) hS ?_
      rotate_left
      · obtain ⟨hW0, hW1, hW2, hW3, hW4, hW5, hW6, hW7, hW8, hW9, hW10, hW11, hW12, hW13, hW14, hW15, hW16, hW17⟩ := hW; go_simp; try first | rfl | (rw [if_neg (by first | omega | (simp only [ByteArray.size_append]; first | omega | (have h1 : (ByteArray.mk #[47]).size = 1 := rfl; omega)))]; try rfl) | kernel_rfl
      try simp only [Act.put, List.setIfInBounds_toArray, List.set_cons_zero, List.set_cons_succ]
      refine wpAnyH_take (i := 23) (v := ?_) ((List.getElem?_toArray ..).trans rfl) (by kernel_rfl) (by kernel_rfl) (by kernel_rfl) (fun _ _ _ h => h) (Or.inl ⟨rfl, fun W hW => ?_⟩) hS ?_
      rotate_left
      · obtain ⟨hW0, hW1, hW2, hW3, hW4, hW5, hW6, hW7, hW8, hW9, hW10, hW11, hW12, hW13, hW14, hW15, hW16, hW17⟩ := hW; go_simp; try first | rfl | (rw [if_neg (by first | omega | (simp only [ByteArray.size_append]; first | omega | (have h1 : (ByteArray.mk #[47]).size = 1 := rfl; omega)))]; try rfl) | kernel_rfl
      try simp only [Act.put, List.setIfInBounds_toArray, List.set_cons_zero, List.set_cons_succ]
      refine wpAnyH_take (i := 24) (v := ?_) ((List.getElem?_toArray ..).trans rfl) (by kernel_rfl) (by kernel_rfl) (by kernel_rfl) (fun _ _ _ h => h) (Or.inl ⟨rfl, fun W hW => ?_⟩) hS ?_
      rotate_left
      · obtain ⟨hW0, hW1, hW2, hW3, hW4, hW5, hW6, hW7, hW8, hW9, hW10, hW11, hW12, hW13, hW14, hW15, hW16, hW17⟩ := hW; go_simp; try first | rfl | (rw [if_neg (by first | omega | (simp only [ByteArray.size_append]; first | omega | (have h1 : (ByteArray.mk #[47]).size = 1 := rfl; omega)))]; try rfl) | kernel_rfl
      try simp only [Act.put, List.setIfInBounds_toArray, List.set_cons_zero, List.set_cons_succ]
      refine wpAnyH_take (i := 25) (v := ?_) ((List.getElem?_toArray ..).trans rfl) (by kernel_rfl) (by kernel_rfl) (by kernel_rfl) (fun _ _ _ h => h) (Or.inl ⟨rfl, fun W hW => ?_⟩) hS ?_
      rotate_left
      · obtain ⟨hW0, hW1, hW2, hW3, hW4, hW5, hW6, hW7, hW8, hW9, hW10, hW11, hW12, hW13, hW14, hW15, hW16, hW17⟩ := hW; go_simp; try first | rfl | (rw [if_neg (by first | omega | (simp only [ByteArray.size_append]; first | omega | (have h1 : (ByteArray.mk #[47]).size = 1 := rfl; omega)))]; try rfl) | kernel_rfl
      try simp only [Act.put, List.setIfInBounds_toArray, List.set_cons_zero, List.set_cons_succ]
      refine wpAnyH_take (i := 26) (v := ?_) ((List.getElem?_toArray ..).trans rfl) (by kernel_rfl) (by kernel_rfl) (by kernel_rfl) (fun _ _ _ h => h) (Or.inl ⟨rfl, fun W hW => ?_⟩) hS ?_
      rotate_left
      · obtain ⟨hW0, hW1, hW2, hW3, hW4, hW5, hW6, hW7, hW8, hW9, hW10, hW11, hW12, hW13, hW14, hW15, hW16, hW17⟩ := hW; go_simp; try first | rfl | (rw [if_neg (by first | omega | (simp only [ByteArray.size_append]; first | omega | (have h1 : (ByteArray.mk #[47]).size = 1 := rfl; omega)))]; try rfl) | kernel_rfl
      try simp only [Act.put, List.setIfInBounds_toArray, List.set_cons_zero, List.set_cons_succ]
      refine wpAnyH_ready (rs := [27]) (by kernel_rfl) (by simp) (AllReadyH.cons ((List.getElem?_toArray ..).trans rfl) (fun KK hKK => ?_) AllReadyH.nil)
      go_simp
      refine (S.call (dcompare_any (L := 500) (H := 1109) ⟨bt, pt, lt, Kt, mt, et, rfl, ht, nt, dt⟩ (IsD.mono ⟨bs, ps, ls, Ks, ms, es, rfl, hs, ns, ds⟩ (L := 300) (H := 781) (L' := 500) (H' := 1109) (by decide) (by decide)) (by decide) 0 (cmpR_eq zs))).mono ?_; clear S; rintro e w23 ⟨rfl, S, H⟩; replace nA := nA.hold H; replace nB := nB.hold H; replace nF := nF.hold H; replace ns := ns.hold H; replace nm := nm.hold H; replace nx := nx.hold H; replace ng := ng.hold H; replace nt := nt.hold H; clear H
      go_wp2_with fail
      refine hKK.out _ _ ⟨S.c 0 0 rfl rfl, S.c 0 1 rfl rfl, S.c 0 2 rfl rfl, S.c 1 0 rfl rfl, S.c 1 1 rfl rfl, S.c 1 2 rfl rfl, S.c 4 0 rfl rfl, S.c 4 1 rfl rfl, S.c 4 2 rfl rfl, S.c 6 0 rfl rfl, S.c 6 1 rfl rfl, S.c 6 2 rfl rfl, S.c 7 0 rfl rfl, S.c 7 1 rfl rfl, S.c 7 2 rfl rfl, S.c 8 0 rfl rfl, S.c 8 1 rfl rfl, S.c 8 2 rfl rfl⟩ (fun hS => ?_)
      clear hKK KK
      try simp only [Act.put, List.setIfInBounds_toArray, List.set_cons_zero, List.set_cons_succ]
      refine wpAnyH_take (i := 28) (v := ?_) ((List.getElem?_toArray ..).trans rfl) (by kernel_rfl) (by kernel_rfl) (by kernel_rfl) (fun _ _ _ h => h) (Or.inl ⟨rfl, fun W hW => ?_⟩) hS ?_
      rotate_left
      · obtain ⟨hW0, hW1, hW2, hW3, hW4, hW5, hW6, hW7, hW8, hW9, hW10, hW11, hW12, hW13, hW14, hW15, hW16, hW17⟩ := hW; go_simp; try first | rfl | (rw [if_neg (by first | omega | (simp only [ByteArray.size_append]; first | omega | (have h1 : (ByteArray.mk #[47]).size = 1 := rfl; omega)))]; try rfl) | kernel_rfl
      try simp only [Act.put, List.setIfInBounds_toArray, List.set_cons_zero, List.set_cons_succ]
      refine wpAnyH_take (i := 29) (v := ?_) ((List.getElem?_toArray ..).trans rfl) (by kernel_rfl) (by kernel_rfl) (by kernel_rfl) (fun _ _ _ h => h) (Or.inl ⟨rfl, fun W hW => ?_⟩) hS ?_
      rotate_left
      · obtain ⟨hW0, hW1, hW2, hW3, hW4, hW5, hW6, hW7, hW8, hW9, hW10, hW11, hW12, hW13, hW14, hW15, hW16, hW17⟩ := hW; go_simp; try first | rfl | (rw [if_neg (by first | omega | (simp only [ByteArray.size_append]; first | omega | (have h1 : (ByteArray.mk #[47]).size = 1 := rfl; omega)))]; try rfl) | kernel_rfl
      try simp only [Act.put, List.setIfInBounds_toArray, List.set_cons_zero, List.set_cons_succ]
      refine wpAnyH_take (i := 30) (v := ?_) ((List.getElem?_toArray ..).trans rfl) (by kernel_rfl) (by kernel_rfl) (by kernel_rfl) (fun _ _ _ h => h) (Or.inl ⟨rfl, fun W hW => ?_⟩) hS ?_
      rotate_left
      · obtain ⟨hW0, hW1, hW2, hW3, hW4, hW5, hW6, hW7, hW8, hW9, hW10, hW11, hW12, hW13, hW14, hW15, hW16, hW17⟩ := hW; go_simp; try first | rfl | (rw [if_neg (by first | omega | (simp only [ByteArray.size_append]; first | omega | (have h1 : (ByteArray.mk #[47]).size = 1 := rfl; omega)))]; try rfl) | kernel_rfl
      try simp only [Act.put, List.setIfInBounds_toArray, List.set_cons_zero, List.set_cons_succ]
      refine wpAnyH_take (i := 31) (v := ?_) ((List.getElem?_toArray ..).trans rfl) (by kernel_rfl) (by kernel_rfl) (by kernel_rfl) (fun _ _ _ h => h) (Or.inl ⟨rfl, fun W hW => ?_⟩) hS ?_
      rotate_left
      · obtain ⟨hW0, hW1, hW2, hW3, hW4, hW5, hW6, hW7, hW8, hW9, hW10, hW11, hW12, hW13, hW14, hW15, hW16, hW17⟩ := hW; go_simp; try first | rfl | (rw [if_neg (by first | omega | (simp only [ByteArray.size_append]; first | omega | (have h1 : (ByteArray.mk #[47]).size = 1 := rfl; omega)))]; try rfl) | kernel_rfl
      try simp only [Act.put, List.setIfInBounds_toArray, List.set_cons_zero, List.set_cons_succ]
      refine wpAnyH_take (i := 33) (v := ?_) ((List.getElem?_toArray ..).trans rfl) (by kernel_rfl) (by kernel_rfl) (by kernel_rfl) (fun _ _ _ h => h) (Or.inl ⟨rfl, fun W hW => ?_⟩) hS ?_
      rotate_left
      · obtain ⟨hW0, hW1, hW2, hW3, hW4, hW5, hW6, hW7, hW8, hW9, hW10, hW11, hW12, hW13, hW14, hW15, hW16, hW17⟩ := hW; go_simp; try first | rfl | (rw [if_neg (by first | omega | (simp only [ByteArray.size_append]; first | omega | (have h1 : (ByteArray.mk #[47]).size = 1 := rfl; omega)))]; try rfl) | kernel_rfl
      try simp only [Act.put, List.setIfInBounds_toArray, List.set_cons_zero, List.set_cons_succ]
      refine wpAnyH_take (i := 34) (v := ?_) ((List.getElem?_toArray ..).trans rfl) (by kernel_rfl) (by kernel_rfl) (by kernel_rfl) (fun _ _ _ h => h) (Or.inl ⟨rfl, fun W hW => ?_⟩) hS ?_
      rotate_left
      · obtain ⟨hW0, hW1, hW2, hW3, hW4, hW5, hW6, hW7, hW8, hW9, hW10, hW11, hW12, hW13, hW14, hW15, hW16, hW17⟩ := hW; go_simp; try first | rfl | (rw [if_neg (by first | omega | (simp only [ByteArray.size_append]; first | omega | (have h1 : (ByteArray.mk #[47]).size = 1 := rfl; omega)))]; try rfl) | kernel_rfl
      try simp only [Act.put, List.setIfInBounds_toArray, List.set_cons_zero, List.set_cons_succ]
      refine wpAnyH_ready (rs := [32]) (by kernel_rfl) (by simp) (AllReadyH.cons ((List.getElem?_toArray ..).trans rfl) (fun KK hKK => ?_) AllReadyH.nil)
      go_simp
      refine (S.call (dsign_any ⟨bx, px, lx, Kx, mx, ex, rfl, hx, nx, dx⟩ (by decide) HQ.out.2.2.2.2.2.1)).mono ?_; clear S; rintro e w24 ⟨rfl, S, H⟩; replace nA := nA.hold H; replace nB := nB.hold H; replace nF := nF.hold H; replace ns := ns.hold H; replace nm := nm.hold H; replace nx := nx.hold H; replace ng := ng.hold H; replace nt := nt.hold H; clear H
      go_wp2_with fail
      refine hKK.out _ _ ⟨S.c 0 0 rfl rfl, S.c 0 1 rfl rfl, S.c 0 2 rfl rfl, S.c 1 0 rfl rfl, S.c 1 1 rfl rfl, S.c 1 2 rfl rfl, S.c 4 0 rfl rfl, S.c 4 1 rfl rfl, S.c 4 2 rfl rfl, S.c 6 0 rfl rfl, S.c 6 1 rfl rfl, S.c 6 2 rfl rfl, S.c 7 0 rfl rfl, S.c 7 1 rfl rfl, S.c 7 2 rfl rfl, S.c 8 0 rfl rfl, S.c 8 1 rfl rfl, S.c 8 2 rfl rfl⟩ (fun hS => ?_)
      clear hKK KK
      try simp only [Act.put, List.setIfInBounds_toArray, List.set_cons_zero, List.set_cons_succ]
      refine wpAnyH_ready (rs := [35]) (by kernel_rfl) (by simp) (AllReadyH.cons ((List.getElem?_toArray ..).trans rfl) (fun KK hKK => ?_) AllReadyH.nil)
      go_simp
      refine (S.call (dcompare_any ⟨bB, pB, lB, KB, mB, eB, rfl, hB, nB, dB⟩ ⟨bA, pA, lA, KA, mA, eA, rfl, hA, nA, dA⟩ (by decide) c HQ.out.2.2.2.2.2.2)).mono ?_; clear S; rintro e w25 ⟨rfl, S, H⟩; replace nA := nA.hold H; replace nB := nB.hold H; replace nF := nF.hold H; replace ns := ns.hold H; replace nm := nm.hold H; replace nx := nx.hold H; replace ng := ng.hold H; replace nt := nt.hold H; clear H
      go_wp2_with fail
      refine hKK.out _ _ ⟨S.c 0 0 rfl rfl, S.c 0 1 rfl rfl, S.c 0 2 rfl rfl, S.c 1 0 rfl rfl, S.c 1 1 rfl rfl, S.c 1 2 rfl rfl, S.c 4 0 rfl rfl, S.c 4 1 rfl rfl, S.c 4 2 rfl rfl, S.c 6 0 rfl rfl, S.c 6 1 rfl rfl, S.c 6 2 rfl rfl, S.c 7 0 rfl rfl, S.c 7 1 rfl rfl, S.c 7 2 rfl rfl, S.c 8 0 rfl rfl, S.c 8 1 rfl rfl, S.c 8 2 rfl rfl⟩ (fun hS => ?_)
      clear hKK KK
      try simp only [Act.put, List.setIfInBounds_toArray, List.set_cons_zero, List.set_cons_succ]
      refine wpAnyH_take (i := 36) (v := ?_) ((List.getElem?_toArray ..).trans rfl) (by kernel_rfl) (by kernel_rfl) (by kernel_rfl) (fun _ _ _ h => h) (Or.inl ⟨rfl, fun W hW => ?_⟩) hS ?_
      rotate_left
      · obtain ⟨hW0, hW1, hW2, hW3, hW4, hW5, hW6, hW7, hW8, hW9, hW10, hW11, hW12, hW13, hW14, hW15, hW16, hW17⟩ := hW; go_simp; try first | rfl | (rw [if_neg (by first | omega | (simp only [ByteArray.size_append]; first | omega | (have h1 : (ByteArray.mk #[47]).size = 1 := rfl; omega)))]; try rfl) | kernel_rfl
      try simp only [Act.put, List.setIfInBounds_toArray, List.set_cons_zero, List.set_cons_succ]
      refine wpAnyH_take (i := 37) (v := ?_) ((List.getElem?_toArray ..).trans rfl) (by kernel_rfl) (by kernel_rfl) (by kernel_rfl) (fun _ _ _ h => h) (Or.inl ⟨rfl, fun W hW => ?_⟩) hS ?_
      rotate_left
      · obtain ⟨hW0, hW1, hW2, hW3, hW4, hW5, hW6, hW7, hW8, hW9, hW10, hW11, hW12, hW13, hW14, hW15, hW16, hW17⟩ := hW; go_simp; try first | rfl | (rw [if_neg (by first | omega | (simp only [ByteArray.size_append]; first | omega | (have h1 : (ByteArray.mk #[47]).size = 1 := rfl; omega)))]; try rfl) | kernel_rfl
      try simp only [Act.put, List.setIfInBounds_toArray, List.set_cons_zero, List.set_cons_succ]
      refine wpAnyH_ready (rs := [38]) (by kernel_rfl) (by simp) (AllReadyH.cons ((List.getElem?_toArray ..).trans rfl) (fun KK hKK => ?_) AllReadyH.nil)
      go_simp
      refine hKK.out _ _ ⟨S.c 0 0 rfl rfl, S.c 0 1 rfl rfl, S.c 0 2 rfl rfl, S.c 1 0 rfl rfl, S.c 1 1 rfl rfl, S.c 1 2 rfl rfl, S.c 4 0 rfl rfl, S.c 4 1 rfl rfl, S.c 4 2 rfl rfl, S.c 6 0 rfl rfl, S.c 6 1 rfl rfl, S.c 6 2 rfl rfl, S.c 7 0 rfl rfl, S.c 7 1 rfl rfl, S.c 7 2 rfl rfl, S.c 8 0 rfl rfl, S.c 8 1 rfl rfl, S.c 8 2 rfl rfl⟩ (fun hS => ?_)
      clear hKK KK
      try simp only [Act.put, List.setIfInBounds_toArray, List.set_cons_zero, List.set_cons_succ]
      refine wpAnyH_done (by kernel_rfl) ?_ _
      go_wp2_with fail
      exact bodyPost_ret (v := .bool true) (by simp [results, Tryd.f6, go_sem]) rfl (⟨rfl, S.below⟩)

end Go.Proofs.YtkokimlgofimmaaDoor
