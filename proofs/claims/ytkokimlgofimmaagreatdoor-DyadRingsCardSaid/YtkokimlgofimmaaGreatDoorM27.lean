/-
  girdlelaw05.DyadRings, as a walk: whatever the two numbers, it returns true.
-/
import Derived.Test.YtkokimlgofimmaaGreatDoorM21
import Derived.Test.YtkokimlgofimmaaGreatDoorM25
import Derived.Test.YtkokimlgofimmaaGreatDoorM26

namespace Go.Proofs.YtkokimlgofimmaaGreatDoor
open Go.RowKit

set_option maxRecDepth 100000 in
set_option maxHeartbeats 8000000 in
theorem dexact_any {va vb : Value} {x : Rat} {w : World} {L H k : Nat} (hT : Tab w) (ha : IsD w va x L H) (hb : IsRat w vb x) (hx : RB x k) (hk : k ≤ 250) (hLH : H + L + 1 ≤ 16384) :
    Calls Tryz.prog 21 #[va, .int .i64 0, vb, .int .i64 0] w fun e w' => e = .returned (.bool true) ∧ Below w.heap.size w w' := by
  obtain ⟨bA, pA, lA, KA, mA, eA, rfl, hA, nA, dA⟩ := ha
  obtain ⟨bB, pB, lB, KB, qB, jB, JB, rfl, hB, nB, dB⟩ := hb
  have HX := Lib.hid (And.intro hT (And.intro hx (And.intro hk hLH)))
  clear hT hx hk hLH
  have S := ((St.start w).alloc 27 [.bool bA, .slice pA lA KA, .int .i64 eA] (w.heap.size)).alloc 31 [.bool bB, .slice pB lB KB, .slice qB jB JB] (w.heap.size + 1)
  try simp only [List.cons_append, List.nil_append] at S
  replace nA := nA.hold S.hold
  replace nB := nB.hold S.hold
  replace dB := dB.hold S.hold
  have c0_0 := S.c 0 0 rfl rfl
  have c0_1 := S.c 0 1 rfl rfl
  have c0_2 := S.c 0 2 rfl rfl
  have c1_0 := S.c 1 0 rfl rfl
  have c1_1 := S.c 1 1 rfl rfl
  have c1_2 := S.c 1 2 rfl rfl
  go_enter Tryz.func21, Tryz.ntmps21
  go_wp2_with fail
  clear c0_0 c0_1 c0_2 c1_0 c1_1 c1_2
  refine (S.call (dratio_any ⟨bA, pA, lA, KA, mA, eA, rfl, hA, nA, dA⟩ HX.out.2.2.2)).mono ?_
  clear S
  rintro e w1 ⟨⟨_, rfl, bC, pC, lC, KC, qC, jC, JC, rfl, hC, nC, dC⟩, S, H⟩
  replace nA := nA.hold H
  replace nB := nB.hold H
  replace dB := dB.hold H
  clear H
  have c0_0 := S.c 0 0 rfl rfl
  have c0_1 := S.c 0 1 rfl rfl
  have c0_2 := S.c 0 2 rfl rfl
  have c1_0 := S.c 1 0 rfl rfl
  have c1_1 := S.c 1 1 rfl rfl
  have c1_2 := S.c 1 2 rfl rfl
  have H := S.hnew 31 [.bool bC, .slice pC lC KC, .slice qC jC JC]
  replace S := S.alloc 31 [.bool bC, .slice pC lC KC, .slice qC jC JC] (w1.heap.size)
  try simp only [List.cons_append, List.nil_append] at S
  replace nA := nA.hold H
  replace nB := nB.hold H
  replace dB := dB.hold H
  replace nC := nC.hold H
  replace dC := dC.hold H
  clear H
  clear c0_0 c0_1 c0_2 c1_0 c1_1 c1_2
  have c0_0 := S.c 0 0 rfl rfl
  have c0_1 := S.c 0 1 rfl rfl
  have c0_2 := S.c 0 2 rfl rfl
  have c1_0 := S.c 1 0 rfl rfl
  have c1_1 := S.c 1 1 rfl rfl
  have c1_2 := S.c 1 2 rfl rfl
  have c2_0 := S.c 2 0 rfl rfl
  have c2_1 := S.c 2 1 rfl rfl
  have c2_2 := S.c 2 2 rfl rfl
  go_wp2_with fail
  clear c0_0 c0_1 c0_2 c1_0 c1_1 c1_2 c2_0 c2_1 c2_2
  refine (S.call (rcompare_any ⟨bC, pC, lC, KC, qC, jC, JC, rfl, hC, nC, dC⟩ ⟨bB, pB, lB, KB, qB, jB, JB, rfl, hB, nB, dB⟩ HX.out.2.1 HX.out.2.1 (by have := HX.out.2.2.1; omega) 0 (cmpR_eq x))).mono ?_
  clear S
  rintro e w2 ⟨rfl, S, H⟩
  replace nA := nA.hold H
  replace nB := nB.hold H
  replace dB := dB.hold H
  replace nC := nC.hold H
  replace dC := dC.hold H
  clear H
  have c0_0 := S.c 0 0 rfl rfl
  have c0_1 := S.c 0 1 rfl rfl
  have c0_2 := S.c 0 2 rfl rfl
  have c1_0 := S.c 1 0 rfl rfl
  have c1_1 := S.c 1 1 rfl rfl
  have c1_2 := S.c 1 2 rfl rfl
  have c2_0 := S.c 2 0 rfl rfl
  have c2_1 := S.c 2 1 rfl rfl
  have c2_2 := S.c 2 2 rfl rfl
  go_wp2_with fail
  clear c0_0 c0_1 c0_2 c1_0 c1_1 c1_2 c2_0 c2_1 c2_2
  refine (S.call (dcheck_any (HX.out.1.below S.below) ⟨bA, pA, lA, KA, mA, eA, rfl, hA, nA, dA⟩ (by have := HX.out.2.2.2; omega))).mono ?_
  clear S
  rintro e w3 ⟨rfl, S, H⟩
  replace nA := nA.hold H
  replace nB := nB.hold H
  replace dB := dB.hold H
  replace nC := nC.hold H
  replace dC := dC.hold H
  clear H
  have c0_0 := S.c 0 0 rfl rfl
  have c0_1 := S.c 0 1 rfl rfl
  have c0_2 := S.c 0 2 rfl rfl
  have c1_0 := S.c 1 0 rfl rfl
  have c1_1 := S.c 1 1 rfl rfl
  have c1_2 := S.c 1 2 rfl rfl
  have c2_0 := S.c 2 0 rfl rfl
  have c2_1 := S.c 2 1 rfl rfl
  have c2_2 := S.c 2 2 rfl rfl
  go_wp2_with fail
  exact bodyPost_ret (v := .bool true) (by simp [results, Tryz.f21, go_sem]) rfl (⟨rfl, S.below⟩)

set_option maxRecDepth 100000 in
set_option maxHeartbeats 16000000 in
theorem dyadRings_any (bA : Bool) (pA : Option Addr) (KA : Nat) (dsA : List Nat) (eA : Int) (bB : Bool) (pB : Option Addr) (KB : Nat) (dsB : List Nat) (eB : Int) (w : World) (hT : Tab w) (atA : At .u32 w pA KA dsA) (ddA : Dig 4294967296 dsA) (atB : At .u32 w pB KB dsB) (ddB : Dig 4294967296 dsB) :
    Calls Tryz.prog 3 #[.agg #[.bool bA, .slice pA dsA.length KA, .int .i64 eA], .agg #[.bool bB, .slice pB dsB.length KB, .int .i64 eB]] w fun e w' => e = .returned (.bool true) ∧ Below w.heap.size w w' := by
  have HT := Lib.hid hT
  have HDA := Lib.hid ddA
  obtain ⟨lA, hlA⟩ : ∃ l, dsA.length = l := ⟨_, rfl⟩
  have HLA := Lib.hid hlA
  rw [hlA]
  have HDB := Lib.hid ddB
  obtain ⟨lB, hlB⟩ : ∃ l, dsB.length = l := ⟨_, rfl⟩
  have HLB := Lib.hid hlB
  rw [hlB]
  clear hT ddA hlA ddB hlB
  have S := ((St.start w).alloc 27 [.bool bA, .slice pA lA KA, .int .i64 eA] (w.heap.size)).alloc 27 [.bool bB, .slice pB lB KB, .int .i64 eB] (w.heap.size + 1)
  try simp only [List.cons_append, List.nil_append] at S
  replace atA := atA.hold S.hold
  replace atB := atB.hold S.hold
  have c0_0 := S.c 0 0 rfl rfl
  have c0_1 := S.c 0 1 rfl rfl
  have c0_2 := S.c 0 2 rfl rfl
  have c1_0 := S.c 1 0 rfl rfl
  have c1_1 := S.c 1 1 rfl rfl
  have c1_2 := S.c 1 2 rfl rfl
  go_enter Tryz.func3, Tryz.ntmps3
  go_wp2_with fail
  clear c0_0 c0_1 c0_2 c1_0 c1_1 c1_2
  refine (S.call (halves_any _ (HT.out.below S.below))).mono ?_
  clear S
  rintro e w1 ⟨rfl, S, H⟩
  replace atA := atA.hold H
  replace atB := atB.hold H
  clear H
  have c0_0 := S.c 0 0 rfl rfl
  have c0_1 := S.c 0 1 rfl rfl
  have c0_2 := S.c 0 2 rfl rfl
  have c1_0 := S.c 1 0 rfl rfl
  have c1_1 := S.c 1 1 rfl rfl
  have c1_2 := S.c 1 2 rfl rfl
  have H := S.hnew 27 [.bool bA, .slice pA lA KA, .int .i64 eA, .bool bB, .slice pB lB KB, .int .i64 eB]
  replace S := S.alloc 27 [.bool bA, .slice pA lA KA, .int .i64 eA, .bool bB, .slice pB lB KB, .int .i64 eB] (w1.heap.size)
  try simp only [List.cons_append, List.nil_append] at S
  replace atA := atA.hold H
  replace atB := atB.hold H
  clear H
  go_wp2_with fail
  clear c0_0 c0_1 c0_2 c1_0 c1_1 c1_2
  refine (S.call (dfit_any _ 2 _ _ _ _ _ _ (HT.out.below S.below) (S.lt 2 rfl) (by decide) (draws2 S 2 rfl HLA.out HLB.out atA atB HDA.out HDB.out))).mono ?_
  clear S
  rintro e w2 ⟨⟨ok, rfl, hok⟩, S, H⟩
  replace atA := atA.hold H
  replace atB := atB.hold H
  clear H
  have c0_0 := S.c 0 0 rfl rfl
  have c0_1 := S.c 0 1 rfl rfl
  have c0_2 := S.c 0 2 rfl rfl
  have c1_0 := S.c 1 0 rfl rfl
  have c1_1 := S.c 1 1 rfl rfl
  have c1_2 := S.c 1 2 rfl rfl
  cases ok with
  | false =>
    go_wp2_with fail
    exact bodyPost_ret (v := .bool true) (by simp [results, Tryz.f3, go_sem]) rfl (⟨rfl, S.below⟩)
  | true =>
    have t := hok.out rfl
    obtain ⟨mA, zA, hA, nA, dA⟩ := tried_dy (b := bA) (e := eA) (t 0 (by decide)) HDA.out HLA.out atA (by decide)
    obtain ⟨mB, zB, hB, nB, dB⟩ := tried_dy (b := bB) (e := eB) (t 1 (by decide)) HDB.out HLB.out atB (by decide)
    clear atA atB
    clear t hok
    have RX := Lib.hid (rb_dyad dA.out (k := 34) (by decide) (by decide))
    have RY := Lib.hid (rb_dyad dB.out (k := 34) (by decide) (by decide))
    clear c0_0 c0_1 c0_2 c1_0 c1_1 c1_2
    have c0_0 := S.c 0 0 rfl rfl
    have c0_1 := S.c 0 1 rfl rfl
    have c0_2 := S.c 0 2 rfl rfl
    go_wp2_with fail
    clear c0_0 c0_1 c0_2
    refine (S.call (dratio_any ⟨bA, pA, lA, KA, mA, eA, rfl, hA, nA, dA⟩ (by decide))).mono ?_
    clear S
    rintro e w3 ⟨⟨_, rfl, bX, pX, lX, KX, qX, jX, JX, rfl, hX, nX, dX⟩, S, H⟩
    replace nA := nA.hold H
    replace nB := nB.hold H
    clear H
    have c0_0 := S.c 0 0 rfl rfl
    have c0_1 := S.c 0 1 rfl rfl
    have c0_2 := S.c 0 2 rfl rfl
    have H := S.hnew 31 [.bool bX, .slice pX lX KX, .slice qX jX JX]
    replace S := S.alloc 31 [.bool bX, .slice pX lX KX, .slice qX jX JX] (w3.heap.size)
    try simp only [List.cons_append, List.nil_append] at S
    replace nA := nA.hold H
    replace nB := nB.hold H
    replace nX := nX.hold H
    replace dX := dX.hold H
    clear H
    clear c0_0 c0_1 c0_2
    have c1_0 := S.c 1 0 rfl rfl
    have c1_1 := S.c 1 1 rfl rfl
    have c1_2 := S.c 1 2 rfl rfl
    go_wp2_with fail
    generalize (.tuple #[.agg #[.bool bX, .slice pX lX KX, .slice qX jX JX], .int .i64 0] : Value) = g1
    clear c1_0 c1_1 c1_2
    refine (S.call (dratio_any ⟨bB, pB, lB, KB, mB, eB, rfl, hB, nB, dB⟩ (by decide))).mono ?_
    clear S
    rintro e w4 ⟨⟨_, rfl, bY, pY, lY, KY, qY, jY, JY, rfl, hY, nY, dY⟩, S, H⟩
    replace nA := nA.hold H
    replace nB := nB.hold H
    replace nX := nX.hold H
    replace dX := dX.hold H
    clear H
    have c1_0 := S.c 1 0 rfl rfl
    have c1_1 := S.c 1 1 rfl rfl
    have c1_2 := S.c 1 2 rfl rfl
    have H := S.hnew 31 [.bool bY, .slice pY lY KY, .slice qY jY JY]
    replace S := S.alloc 31 [.bool bY, .slice pY lY KY, .slice qY jY JY] (w4.heap.size)
    try simp only [List.cons_append, List.nil_append] at S
    replace nA := nA.hold H
    replace nB := nB.hold H
    replace nX := nX.hold H
    replace dX := dX.hold H
    replace nY := nY.hold H
    replace dY := dY.hold H
    clear H
    clear c1_0 c1_1 c1_2
    have c0_0 := S.c 0 0 rfl rfl
    have c0_1 := S.c 0 1 rfl rfl
    have c0_2 := S.c 0 2 rfl rfl
    have c1_0 := S.c 1 0 rfl rfl
    have c1_1 := S.c 1 1 rfl rfl
    have c1_2 := S.c 1 2 rfl rfl
    go_wp2_with fail
    generalize (.tuple #[.agg #[.bool bY, .slice pY lY KY, .slice qY jY JY], .int .i64 0] : Value) = g2
    clear c0_0 c0_1 c0_2 c1_0 c1_1 c1_2
    refine (S.call (dadd_any (HT.out.below S.below) ⟨bA, pA, lA, KA, mA, eA, rfl, hA, nA, dA⟩ ⟨bB, pB, lB, KB, mB, eB, rfl, hB, nB, dB⟩ (by decide) (zA + zB) rfl)).mono ?_
    clear S
    rintro e w5 ⟨⟨_, rfl, bs, ps, ls, Ks, ms, es, rfl, hs, ns, ds⟩, S, H⟩
    replace nA := nA.hold H
    replace nB := nB.hold H
    replace nX := nX.hold H
    replace dX := dX.hold H
    replace nY := nY.hold H
    replace dY := dY.hold H
    clear H
    have c0_0 := S.c 0 0 rfl rfl
    have c0_1 := S.c 0 1 rfl rfl
    have c0_2 := S.c 0 2 rfl rfl
    have c1_0 := S.c 1 0 rfl rfl
    have c1_1 := S.c 1 1 rfl rfl
    have c1_2 := S.c 1 2 rfl rfl
    have H := S.hnew 27 [.bool bs, .slice ps ls Ks, .int .i64 es]
    replace S := S.alloc 27 [.bool bs, .slice ps ls Ks, .int .i64 es] (w5.heap.size)
    try simp only [List.cons_append, List.nil_append] at S
    replace nA := nA.hold H
    replace nB := nB.hold H
    replace nX := nX.hold H
    replace dX := dX.hold H
    replace nY := nY.hold H
    replace dY := dY.hold H
    replace ns := ns.hold H
    clear H
    clear c0_0 c0_1 c0_2 c1_0 c1_1 c1_2
    have c3_0 := S.c 3 0 rfl rfl
    have c3_1 := S.c 3 1 rfl rfl
    have c3_2 := S.c 3 2 rfl rfl
    have c4_0 := S.c 4 0 rfl rfl
    have c4_1 := S.c 4 1 rfl rfl
    have c4_2 := S.c 4 2 rfl rfl
    go_wp2_with fail
    generalize (.tuple #[.agg #[.bool bs, .slice ps ls Ks, .int .i64 es], .int .i64 0] : Value) = g3
    clear c3_0 c3_1 c3_2 c4_0 c4_1 c4_2
    refine (S.call (radd_any ⟨bX, pX, lX, KX, qX, jX, JX, rfl, hX, nX, dX⟩ ⟨bY, pY, lY, KY, qY, jY, JY, rfl, hY, nY, dY⟩ RX.out RY.out (by decide) (zA + zB) rfl)).mono ?_
    clear S
    rintro e w6 ⟨⟨_, rfl, bt, pt, lt, Kt, qt, jt, Jt, rfl, ht, nt, dt⟩, S, H⟩
    replace nA := nA.hold H
    replace nB := nB.hold H
    replace nX := nX.hold H
    replace dX := dX.hold H
    replace nY := nY.hold H
    replace dY := dY.hold H
    replace ns := ns.hold H
    clear H
    have c3_0 := S.c 3 0 rfl rfl
    have c3_1 := S.c 3 1 rfl rfl
    have c3_2 := S.c 3 2 rfl rfl
    have c4_0 := S.c 4 0 rfl rfl
    have c4_1 := S.c 4 1 rfl rfl
    have c4_2 := S.c 4 2 rfl rfl
    have H := S.hnew 31 [.bool bt, .slice pt lt Kt, .slice qt jt Jt]
    replace S := S.alloc 31 [.bool bt, .slice pt lt Kt, .slice qt jt Jt] (w6.heap.size)
    try simp only [List.cons_append, List.nil_append] at S
    replace nA := nA.hold H
    replace nB := nB.hold H
    replace nX := nX.hold H
    replace dX := dX.hold H
    replace nY := nY.hold H
    replace dY := dY.hold H
    replace ns := ns.hold H
    replace nt := nt.hold H
    replace dt := dt.hold H
    clear H
    clear c3_0 c3_1 c3_2 c4_0 c4_1 c4_2
    have c0_0 := S.c 0 0 rfl rfl
    have c0_1 := S.c 0 1 rfl rfl
    have c0_2 := S.c 0 2 rfl rfl
    have c1_0 := S.c 1 0 rfl rfl
    have c1_1 := S.c 1 1 rfl rfl
    have c1_2 := S.c 1 2 rfl rfl
    go_wp2_with fail
    generalize (.tuple #[.agg #[.bool bt, .slice pt lt Kt, .slice qt jt Jt], .int .i64 0] : Value) = g4
    clear c0_0 c0_1 c0_2 c1_0 c1_1 c1_2
    refine (S.call (dsub_any (HT.out.below S.below) ⟨bA, pA, lA, KA, mA, eA, rfl, hA, nA, dA⟩ ⟨bB, pB, lB, KB, mB, eB, rfl, hB, nB, dB⟩ (by decide) (zA - zB) rfl)).mono ?_
    clear S
    rintro e w7 ⟨⟨_, rfl, bf, pf, lf, Kf, mf, ef, rfl, hf, nf, df⟩, S, H⟩
    replace nA := nA.hold H
    replace nB := nB.hold H
    replace nX := nX.hold H
    replace dX := dX.hold H
    replace nY := nY.hold H
    replace dY := dY.hold H
    replace ns := ns.hold H
    replace nt := nt.hold H
    replace dt := dt.hold H
    clear H
    have c0_0 := S.c 0 0 rfl rfl
    have c0_1 := S.c 0 1 rfl rfl
    have c0_2 := S.c 0 2 rfl rfl
    have c1_0 := S.c 1 0 rfl rfl
    have c1_1 := S.c 1 1 rfl rfl
    have c1_2 := S.c 1 2 rfl rfl
    have H := S.hnew 27 [.bool bf, .slice pf lf Kf, .int .i64 ef]
    replace S := S.alloc 27 [.bool bf, .slice pf lf Kf, .int .i64 ef] (w7.heap.size)
    try simp only [List.cons_append, List.nil_append] at S
    replace nA := nA.hold H
    replace nB := nB.hold H
    replace nX := nX.hold H
    replace dX := dX.hold H
    replace nY := nY.hold H
    replace dY := dY.hold H
    replace ns := ns.hold H
    replace nt := nt.hold H
    replace dt := dt.hold H
    replace nf := nf.hold H
    clear H
    clear c0_0 c0_1 c0_2 c1_0 c1_1 c1_2
    have c3_0 := S.c 3 0 rfl rfl
    have c3_1 := S.c 3 1 rfl rfl
    have c3_2 := S.c 3 2 rfl rfl
    have c4_0 := S.c 4 0 rfl rfl
    have c4_1 := S.c 4 1 rfl rfl
    have c4_2 := S.c 4 2 rfl rfl
    go_wp2_with fail
    generalize (.tuple #[.agg #[.bool bf, .slice pf lf Kf, .int .i64 ef], .int .i64 0] : Value) = g5
    clear c3_0 c3_1 c3_2 c4_0 c4_1 c4_2
    refine (S.call (rsub_any ⟨bX, pX, lX, KX, qX, jX, JX, rfl, hX, nX, dX⟩ ⟨bY, pY, lY, KY, qY, jY, JY, rfl, hY, nY, dY⟩ RX.out RY.out (by decide) (zA - zB) rfl)).mono ?_
    clear S
    rintro e w8 ⟨⟨_, rfl, bu, pu, lu, Ku, qu, ju, Ju, rfl, hu, nu, du⟩, S, H⟩
    replace nA := nA.hold H
    replace nB := nB.hold H
    replace nX := nX.hold H
    replace dX := dX.hold H
    replace nY := nY.hold H
    replace dY := dY.hold H
    replace ns := ns.hold H
    replace nt := nt.hold H
    replace dt := dt.hold H
    replace nf := nf.hold H
    clear H
    have c3_0 := S.c 3 0 rfl rfl
    have c3_1 := S.c 3 1 rfl rfl
    have c3_2 := S.c 3 2 rfl rfl
    have c4_0 := S.c 4 0 rfl rfl
    have c4_1 := S.c 4 1 rfl rfl
    have c4_2 := S.c 4 2 rfl rfl
    have H := S.hnew 31 [.bool bu, .slice pu lu Ku, .slice qu ju Ju]
    replace S := S.alloc 31 [.bool bu, .slice pu lu Ku, .slice qu ju Ju] (w8.heap.size)
    try simp only [List.cons_append, List.nil_append] at S
    replace nA := nA.hold H
    replace nB := nB.hold H
    replace nX := nX.hold H
    replace dX := dX.hold H
    replace nY := nY.hold H
    replace dY := dY.hold H
    replace ns := ns.hold H
    replace nt := nt.hold H
    replace dt := dt.hold H
    replace nf := nf.hold H
    replace nu := nu.hold H
    replace du := du.hold H
    clear H
    clear c3_0 c3_1 c3_2 c4_0 c4_1 c4_2
    have c0_0 := S.c 0 0 rfl rfl
    have c0_1 := S.c 0 1 rfl rfl
    have c0_2 := S.c 0 2 rfl rfl
    have c1_0 := S.c 1 0 rfl rfl
    have c1_1 := S.c 1 1 rfl rfl
    have c1_2 := S.c 1 2 rfl rfl
    go_wp2_with fail
    generalize (.tuple #[.agg #[.bool bu, .slice pu lu Ku, .slice qu ju Ju], .int .i64 0] : Value) = g6
    clear c0_0 c0_1 c0_2 c1_0 c1_1 c1_2
    refine (S.call (dmul_any (HT.out.below S.below) ⟨bA, pA, lA, KA, mA, eA, rfl, hA, nA, dA⟩ ⟨bB, pB, lB, KB, mB, eB, rfl, hB, nB, dB⟩ (by decide) (zA * zB) rfl)).mono ?_
    clear S
    rintro e w9 ⟨⟨_, rfl, bp, pp, lp, Kp, mp, ep, rfl, hp, np, dp⟩, S, H⟩
    replace nA := nA.hold H
    replace nB := nB.hold H
    replace nX := nX.hold H
    replace dX := dX.hold H
    replace nY := nY.hold H
    replace dY := dY.hold H
    replace ns := ns.hold H
    replace nt := nt.hold H
    replace dt := dt.hold H
    replace nf := nf.hold H
    replace nu := nu.hold H
    replace du := du.hold H
    clear H
    have c0_0 := S.c 0 0 rfl rfl
    have c0_1 := S.c 0 1 rfl rfl
    have c0_2 := S.c 0 2 rfl rfl
    have c1_0 := S.c 1 0 rfl rfl
    have c1_1 := S.c 1 1 rfl rfl
    have c1_2 := S.c 1 2 rfl rfl
    have H := S.hnew 27 [.bool bp, .slice pp lp Kp, .int .i64 ep]
    replace S := S.alloc 27 [.bool bp, .slice pp lp Kp, .int .i64 ep] (w9.heap.size)
    try simp only [List.cons_append, List.nil_append] at S
    replace nA := nA.hold H
    replace nB := nB.hold H
    replace nX := nX.hold H
    replace dX := dX.hold H
    replace nY := nY.hold H
    replace dY := dY.hold H
    replace ns := ns.hold H
    replace nt := nt.hold H
    replace dt := dt.hold H
    replace nf := nf.hold H
    replace nu := nu.hold H
    replace du := du.hold H
    replace np := np.hold H
    clear H
    clear c0_0 c0_1 c0_2 c1_0 c1_1 c1_2
    have c3_0 := S.c 3 0 rfl rfl
    have c3_1 := S.c 3 1 rfl rfl
    have c3_2 := S.c 3 2 rfl rfl
    have c4_0 := S.c 4 0 rfl rfl
    have c4_1 := S.c 4 1 rfl rfl
    have c4_2 := S.c 4 2 rfl rfl
    go_wp2_with fail
    generalize (.tuple #[.agg #[.bool bp, .slice pp lp Kp, .int .i64 ep], .int .i64 0] : Value) = g7
    clear c3_0 c3_1 c3_2 c4_0 c4_1 c4_2
    refine (S.call (rmul_any ⟨bX, pX, lX, KX, qX, jX, JX, rfl, hX, nX, dX⟩ ⟨bY, pY, lY, KY, qY, jY, JY, rfl, hY, nY, dY⟩ RX.out RY.out (by decide) (zA * zB) rfl)).mono ?_
    clear S
    rintro e w10 ⟨⟨_, rfl, bg, pg, lg, Kg, qg, jg, Jg, rfl, hg, ng, dg⟩, S, H⟩
    replace nA := nA.hold H
    replace nB := nB.hold H
    replace nX := nX.hold H
    replace dX := dX.hold H
    replace nY := nY.hold H
    replace dY := dY.hold H
    replace ns := ns.hold H
    replace nt := nt.hold H
    replace dt := dt.hold H
    replace nf := nf.hold H
    replace nu := nu.hold H
    replace du := du.hold H
    replace np := np.hold H
    clear H
    have c3_0 := S.c 3 0 rfl rfl
    have c3_1 := S.c 3 1 rfl rfl
    have c3_2 := S.c 3 2 rfl rfl
    have c4_0 := S.c 4 0 rfl rfl
    have c4_1 := S.c 4 1 rfl rfl
    have c4_2 := S.c 4 2 rfl rfl
    have H := S.hnew 31 [.bool bg, .slice pg lg Kg, .slice qg jg Jg]
    replace S := S.alloc 31 [.bool bg, .slice pg lg Kg, .slice qg jg Jg] (w10.heap.size)
    try simp only [List.cons_append, List.nil_append] at S
    replace nA := nA.hold H
    replace nB := nB.hold H
    replace nX := nX.hold H
    replace dX := dX.hold H
    replace nY := nY.hold H
    replace dY := dY.hold H
    replace ns := ns.hold H
    replace nt := nt.hold H
    replace dt := dt.hold H
    replace nf := nf.hold H
    replace nu := nu.hold H
    replace du := du.hold H
    replace np := np.hold H
    replace ng := ng.hold H
    replace dg := dg.hold H
    clear H
    clear c3_0 c3_1 c3_2 c4_0 c4_1 c4_2
    have c5_0 := S.c 5 0 rfl rfl
    have c5_1 := S.c 5 1 rfl rfl
    have c5_2 := S.c 5 2 rfl rfl
    have c6_0 := S.c 6 0 rfl rfl
    have c6_1 := S.c 6 1 rfl rfl
    have c6_2 := S.c 6 2 rfl rfl
    go_wp2_with fail
    generalize (.tuple #[.agg #[.bool bg, .slice pg lg Kg, .slice qg jg Jg], .int .i64 0] : Value) = g8
    clear c5_0 c5_1 c5_2 c6_0 c6_1 c6_2
    refine (S.call (dexact_any (HT.out.below S.below) ⟨bs, ps, ls, Ks, ms, es, rfl, hs, ns, ds⟩ ⟨bt, pt, lt, Kt, qt, jt, Jt, rfl, ht, nt, dt⟩ (rb_add RX.out RY.out) (by decide) (by decide))).mono ?_
    clear S
    rintro e w11 ⟨rfl, S, H⟩
    replace nA := nA.hold H
    replace nB := nB.hold H
    replace nX := nX.hold H
    replace dX := dX.hold H
    replace nY := nY.hold H
    replace dY := dY.hold H
    replace ns := ns.hold H
    replace nt := nt.hold H
    replace dt := dt.hold H
    replace nf := nf.hold H
    replace nu := nu.hold H
    replace du := du.hold H
    replace np := np.hold H
    replace ng := ng.hold H
    replace dg := dg.hold H
    clear H
    have c5_0 := S.c 5 0 rfl rfl
    have c5_1 := S.c 5 1 rfl rfl
    have c5_2 := S.c 5 2 rfl rfl
    have c6_0 := S.c 6 0 rfl rfl
    have c6_1 := S.c 6 1 rfl rfl
    have c6_2 := S.c 6 2 rfl rfl
    clear c5_0 c5_1 c5_2 c6_0 c6_1 c6_2
    have c7_0 := S.c 7 0 rfl rfl
    have c7_1 := S.c 7 1 rfl rfl
    have c7_2 := S.c 7 2 rfl rfl
    have c8_0 := S.c 8 0 rfl rfl
    have c8_1 := S.c 8 1 rfl rfl
    have c8_2 := S.c 8 2 rfl rfl
    go_wp2_with fail
    clear c7_0 c7_1 c7_2 c8_0 c8_1 c8_2
    refine (S.call (dexact_any (HT.out.below S.below) ⟨bf, pf, lf, Kf, mf, ef, rfl, hf, nf, df⟩ ⟨bu, pu, lu, Ku, qu, ju, Ju, rfl, hu, nu, du⟩ (rb_sub RX.out RY.out) (by decide) (by decide))).mono ?_
    clear S
    rintro e w12 ⟨rfl, S, H⟩
    replace nA := nA.hold H
    replace nB := nB.hold H
    replace nX := nX.hold H
    replace dX := dX.hold H
    replace nY := nY.hold H
    replace dY := dY.hold H
    replace ns := ns.hold H
    replace nt := nt.hold H
    replace dt := dt.hold H
    replace nf := nf.hold H
    replace nu := nu.hold H
    replace du := du.hold H
    replace np := np.hold H
    replace ng := ng.hold H
    replace dg := dg.hold H
    clear H
    have c7_0 := S.c 7 0 rfl rfl
    have c7_1 := S.c 7 1 rfl rfl
    have c7_2 := S.c 7 2 rfl rfl
    have c8_0 := S.c 8 0 rfl rfl
    have c8_1 := S.c 8 1 rfl rfl
    have c8_2 := S.c 8 2 rfl rfl
    clear c7_0 c7_1 c7_2 c8_0 c8_1 c8_2
    have c9_0 := S.c 9 0 rfl rfl
    have c9_1 := S.c 9 1 rfl rfl
    have c9_2 := S.c 9 2 rfl rfl
    have c10_0 := S.c 10 0 rfl rfl
    have c10_1 := S.c 10 1 rfl rfl
    have c10_2 := S.c 10 2 rfl rfl
    go_wp2_with fail
    clear c9_0 c9_1 c9_2 c10_0 c10_1 c10_2
    refine (S.call (dexact_any (HT.out.below S.below) ⟨bp, pp, lp, Kp, mp, ep, rfl, hp, np, dp⟩ ⟨bg, pg, lg, Kg, qg, jg, Jg, rfl, hg, ng, dg⟩ (rb_mul RX.out RY.out) (by decide) (by decide))).mono ?_
    clear S
    rintro e w13 ⟨rfl, S, H⟩
    replace nA := nA.hold H
    replace nB := nB.hold H
    replace nX := nX.hold H
    replace dX := dX.hold H
    replace nY := nY.hold H
    replace dY := dY.hold H
    replace ns := ns.hold H
    replace nt := nt.hold H
    replace dt := dt.hold H
    replace nf := nf.hold H
    replace nu := nu.hold H
    replace du := du.hold H
    replace np := np.hold H
    replace ng := ng.hold H
    replace dg := dg.hold H
    clear H
    have c9_0 := S.c 9 0 rfl rfl
    have c9_1 := S.c 9 1 rfl rfl
    have c9_2 := S.c 9 2 rfl rfl
    have c10_0 := S.c 10 0 rfl rfl
    have c10_1 := S.c 10 1 rfl rfl
    have c10_2 := S.c 10 2 rfl rfl
    go_wp2_with fail
    exact bodyPost_ret (v := .bool true) (by simp [results, Tryz.f3, go_sem]) rfl (⟨rfl, S.below⟩)

end Go.Proofs.YtkokimlgofimmaaGreatDoor
