/-
  girdlelaw04.RatioField, as a walk: whatever the three ratios, it returns true.
-/
import Derived.Test.YtggnjlbnfgjgdaaM29

namespace Go.Proofs.Ytggnjlbnfgjgdaa
open Go.RowKit

set_option maxRecDepth 100000 in
set_option maxHeartbeats 16000000 in
theorem ratioField_any (bA : Bool) (pA qA : Option Addr) (KA JA : Nat) (dsA esA : List Nat) (bB : Bool) (pB qB : Option Addr) (KB JB : Nat) (dsB esB : List Nat) (bC : Bool) (pC qC : Option Addr) (KC JC : Nat) (dsC esC : List Nat) (w : World) (atA : At .u32 w pA KA dsA) (ctA : At .u32 w qA JA esA) (ddA : Dig 4294967296 dsA) (deA : Dig 4294967296 esA) (atB : At .u32 w pB KB dsB) (ctB : At .u32 w qB JB esB) (ddB : Dig 4294967296 dsB) (deB : Dig 4294967296 esB) (atC : At .u32 w pC KC dsC) (ctC : At .u32 w qC JC esC) (ddC : Dig 4294967296 dsC) (deC : Dig 4294967296 esC) :
    Calls Try.prog 4 #[.agg #[.bool bA, .slice pA dsA.length KA, .slice qA esA.length JA], .agg #[.bool bB, .slice pB dsB.length KB, .slice qB esB.length JB], .agg #[.bool bC, .slice pC dsC.length KC, .slice qC esC.length JC]] w fun e w' => e = .returned (.bool true) ∧ Below w.heap.size w w' := by
  have HDA := Lib.hid (And.intro ddA deA)
  obtain ⟨lA, hlA⟩ : ∃ l, dsA.length = l := ⟨_, rfl⟩
  obtain ⟨jA, hjA⟩ : ∃ l, esA.length = l := ⟨_, rfl⟩
  have HLA := Lib.hid (And.intro hlA hjA)
  rw [hlA, hjA]
  have HDB := Lib.hid (And.intro ddB deB)
  obtain ⟨lB, hlB⟩ : ∃ l, dsB.length = l := ⟨_, rfl⟩
  obtain ⟨jB, hjB⟩ : ∃ l, esB.length = l := ⟨_, rfl⟩
  have HLB := Lib.hid (And.intro hlB hjB)
  rw [hlB, hjB]
  have HDC := Lib.hid (And.intro ddC deC)
  obtain ⟨lC, hlC⟩ : ∃ l, dsC.length = l := ⟨_, rfl⟩
  obtain ⟨jC, hjC⟩ : ∃ l, esC.length = l := ⟨_, rfl⟩
  have HLC := Lib.hid (And.intro hlC hjC)
  rw [hlC, hjC]
  clear ddA deA hlA hjA ddB deB hlB hjB ddC deC hlC hjC
  have S := (((St.start w).alloc 30 [.bool bA, .slice pA lA KA, .slice qA jA JA] (w.heap.size)).alloc 30 [.bool bB, .slice pB lB KB, .slice qB jB JB] (w.heap.size + 1)).alloc 30 [.bool bC, .slice pC lC KC, .slice qC jC JC] (w.heap.size + 1 + 1)
  try simp only [List.cons_append, List.nil_append] at S
  replace atA := atA.hold S.hold
  replace ctA := ctA.hold S.hold
  replace atB := atB.hold S.hold
  replace ctB := ctB.hold S.hold
  replace atC := atC.hold S.hold
  replace ctC := ctC.hold S.hold
  have c0_0 := S.c 0 0 rfl rfl
  have c0_1 := S.c 0 1 rfl rfl
  have c0_2 := S.c 0 2 rfl rfl
  have c1_0 := S.c 1 0 rfl rfl
  have c1_1 := S.c 1 1 rfl rfl
  have c1_2 := S.c 1 2 rfl rfl
  have c2_0 := S.c 2 0 rfl rfl
  have c2_1 := S.c 2 1 rfl rfl
  have c2_2 := S.c 2 2 rfl rfl
  go_enter Try.func4, Try.ntmps4
  go_wp2_with fail
  clear c0_0 c0_1 c0_2 c1_0 c1_1 c1_2 c2_0 c2_1 c2_2
  refine (S.call (parts_any _)).mono ?_
  clear S
  rintro e w1 ⟨rfl, S, H⟩
  replace atA := atA.hold H
  replace ctA := ctA.hold H
  replace atB := atB.hold H
  replace ctB := ctB.hold H
  replace atC := atC.hold H
  replace ctC := ctC.hold H
  clear H
  have c0_0 := S.c 0 0 rfl rfl
  have c0_1 := S.c 0 1 rfl rfl
  have c0_2 := S.c 0 2 rfl rfl
  have c1_0 := S.c 1 0 rfl rfl
  have c1_1 := S.c 1 1 rfl rfl
  have c1_2 := S.c 1 2 rfl rfl
  have c2_0 := S.c 2 0 rfl rfl
  have c2_1 := S.c 2 1 rfl rfl
  have c2_2 := S.c 2 2 rfl rfl
  have H := S.hnew 30 [.bool bA, .slice pA lA KA, .slice qA jA JA, .bool bB, .slice pB lB KB, .slice qB jB JB, .bool bC, .slice pC lC KC, .slice qC jC JC]
  replace S := S.alloc 30 [.bool bA, .slice pA lA KA, .slice qA jA JA, .bool bB, .slice pB lB KB, .slice qB jB JB, .bool bC, .slice pC lC KC, .slice qC jC JC] (w1.heap.size)
  try simp only [List.cons_append, List.nil_append] at S
  replace atA := atA.hold H
  replace ctA := ctA.hold H
  replace atB := atB.hold H
  replace ctB := ctB.hold H
  replace atC := atC.hold H
  replace ctC := ctC.hold H
  clear H
  go_wp2_with fail
  clear c0_0 c0_1 c0_2 c1_0 c1_1 c1_2 c2_0 c2_1 c2_2
  refine (S.call (rfit_any _ 3 _ _ _ _ _ _ _ _ (S.lt 3 rfl) (by decide) (rraws3 S 3 rfl HLA.out.1 HLA.out.2 HLB.out.1 HLB.out.2 HLC.out.1 HLC.out.2 atA ctA atB ctB atC ctC HDA.out.1 HDA.out.2 HDB.out.1 HDB.out.2 HDC.out.1 HDC.out.2))).mono ?_
  clear S
  rintro e w2 ⟨⟨ok, rfl, hok⟩, S, H⟩
  replace atA := atA.hold H
  replace ctA := ctA.hold H
  replace atB := atB.hold H
  replace ctB := ctB.hold H
  replace atC := atC.hold H
  replace ctC := ctC.hold H
  clear H
  have c0_0 := S.c 0 0 rfl rfl
  have c0_1 := S.c 0 1 rfl rfl
  have c0_2 := S.c 0 2 rfl rfl
  have c1_0 := S.c 1 0 rfl rfl
  have c1_1 := S.c 1 1 rfl rfl
  have c1_2 := S.c 1 2 rfl rfl
  have c2_0 := S.c 2 0 rfl rfl
  have c2_1 := S.c 2 1 rfl rfl
  have c2_2 := S.c 2 2 rfl rfl
  cases ok with
  | false =>
    go_wp2_with fail
    exact bodyPost_ret (v := .bool true) (by simp [results, Try.f4, go_sem]) rfl (⟨rfl, S.below⟩)
  | true =>
    have t := hok.out rfl
    obtain ⟨zA, hA, rA, nA, dA⟩ := tried_rat (b := bA) (t 0 (by decide)) HDA.out.1 HDA.out.2 HLA.out.1 HLA.out.2 atA ctA
    have RA := Lib.hid rA
    obtain ⟨zB, hB, rB, nB, dB⟩ := tried_rat (b := bB) (t 1 (by decide)) HDB.out.1 HDB.out.2 HLB.out.1 HLB.out.2 atB ctB
    have RBB := Lib.hid rB
    obtain ⟨zC, hC, rC, nC, dC⟩ := tried_rat (b := bC) (t 2 (by decide)) HDC.out.1 HDC.out.2 HLC.out.1 HLC.out.2 atC ctC
    have RC := Lib.hid rC
    clear atA ctA atB ctB atC ctC
    clear t hok rA rB rC
    obtain ⟨zE, hzE⟩ : ∃ z : Rat, zA + zB = z := ⟨_, rfl⟩
    have RE := Lib.hid (show RB zE 41 from hzE ▸ rb_add RA.out RBB.out)
    obtain ⟨zF, hzF⟩ : ∃ z : Rat, zE + zC = z := ⟨_, rfl⟩
    have RF := Lib.hid (show RB zF 62 from hzF ▸ rb_add RE.out RC.out)
    obtain ⟨zG, hzG⟩ : ∃ z : Rat, zB + zC = z := ⟨_, rfl⟩
    have RG := Lib.hid (show RB zG 41 from hzG ▸ rb_add RBB.out RC.out)
    obtain ⟨zP, hzP⟩ : ∃ z : Rat, zA * zB = z := ⟨_, rfl⟩
    have RP := Lib.hid (show RB zP 40 from hzP ▸ rb_mul RA.out RBB.out)
    obtain ⟨zR, hzR⟩ : ∃ z : Rat, zA * zC = z := ⟨_, rfl⟩
    have RR := Lib.hid (show RB zR 40 from hzR ▸ rb_mul RA.out RC.out)
    obtain ⟨zT, hzT⟩ : ∃ z : Rat, zP + zR = z := ⟨_, rfl⟩
    have RT := Lib.hid (show RB zT 81 from hzT ▸ rb_add RP.out RR.out)
    have HE := Lib.hid (And.intro hzE (show zB + zA = zE by rw [← hzE, Rat.add_comm]))
    have HF := Lib.hid (And.intro hzF (And.intro (show zA + zG = zF by rw [← hzF, ← hzE, ← hzG, Rat.add_assoc]) (show zC + zB + zA = zF by rw [← hzF, ← hzE, Rat.add_comm (zC + zB), Rat.add_comm zC, Rat.add_assoc])))
    have HG := Lib.hid hzG
    have HB := Lib.hid (show zE - zB = zA by rw [← hzE]; grind)
    have HP := Lib.hid (And.intro hzP (show zB * zA = zP by rw [← hzP, Rat.mul_comm]))
    have HR := Lib.hid hzR
    have HT := Lib.hid (And.intro hzT (show zA * zG = zT by rw [← hzT, ← hzP, ← hzR, ← hzG, Rat.mul_add]))
    have HV := Lib.hid (show zB ≠ 0 → zP / zB = zA by intro h; rw [← hzP]; grind)
    clear hzE hzF hzG hzP hzR hzT
    clear c0_0 c0_1 c0_2 c1_0 c1_1 c1_2 c2_0 c2_1 c2_2
    have c0_0 := S.c 0 0 rfl rfl
    have c0_1 := S.c 0 1 rfl rfl
    have c0_2 := S.c 0 2 rfl rfl
    have c1_0 := S.c 1 0 rfl rfl
    have c1_1 := S.c 1 1 rfl rfl
    have c1_2 := S.c 1 2 rfl rfl
    go_wp2_with fail
    clear c0_0 c0_1 c0_2 c1_0 c1_1 c1_2
    refine (S.call (radd_any ⟨bA, pA, lA, KA, qA, jA, JA, rfl, hA, nA, dA⟩ ⟨bB, pB, lB, KB, qB, jB, JB, rfl, hB, nB, dB⟩ RA.out RBB.out (by decide) zE HE.out.1)).mono ?_
    clear S
    rintro e w3 ⟨⟨_, rfl, bE, pE, lE, KE, qE, jE, JE, rfl, hE, nE, dE⟩, S, H⟩
    replace nA := nA.hold H
    replace dA := dA.hold H
    replace nB := nB.hold H
    replace dB := dB.hold H
    replace nC := nC.hold H
    replace dC := dC.hold H
    clear H
    have c0_0 := S.c 0 0 rfl rfl
    have c0_1 := S.c 0 1 rfl rfl
    have c0_2 := S.c 0 2 rfl rfl
    have c1_0 := S.c 1 0 rfl rfl
    have c1_1 := S.c 1 1 rfl rfl
    have c1_2 := S.c 1 2 rfl rfl
    generalize (.agg #[.bool bA, .slice pA lA KA, .slice qA jA JA] : Value) = k1
    generalize (.agg #[.bool bB, .slice pB lB KB, .slice qB jB JB] : Value) = k2
    have H := S.hnew 30 [.bool bE, .slice pE lE KE, .slice qE jE JE]
    replace S := S.alloc 30 [.bool bE, .slice pE lE KE, .slice qE jE JE] (w3.heap.size)
    try simp only [List.cons_append, List.nil_append] at S
    replace nA := nA.hold H
    replace dA := dA.hold H
    replace nB := nB.hold H
    replace dB := dB.hold H
    replace nC := nC.hold H
    replace dC := dC.hold H
    replace nE := nE.hold H
    replace dE := dE.hold H
    clear H
    clear c0_0 c0_1 c0_2 c1_0 c1_1 c1_2
    have c0_0 := S.c 0 0 rfl rfl
    have c0_1 := S.c 0 1 rfl rfl
    have c0_2 := S.c 0 2 rfl rfl
    have c1_0 := S.c 1 0 rfl rfl
    have c1_1 := S.c 1 1 rfl rfl
    have c1_2 := S.c 1 2 rfl rfl
    go_wp2_with fail
    generalize (.tuple #[.agg #[.bool bE, .slice pE lE KE, .slice qE jE JE], .int .i64 0] : Value) = g1
    clear c0_0 c0_1 c0_2 c1_0 c1_1 c1_2
    refine (S.call (radd_any ⟨bB, pB, lB, KB, qB, jB, JB, rfl, hB, nB, dB⟩ ⟨bA, pA, lA, KA, qA, jA, JA, rfl, hA, nA, dA⟩ RBB.out RA.out (by decide) zE HE.out.2)).mono ?_
    clear S
    rintro e w4 ⟨⟨_, rfl, be, pe, le, Ke, qe, je, Je, rfl, he, ne, de⟩, S, H⟩
    replace nA := nA.hold H
    replace dA := dA.hold H
    replace nB := nB.hold H
    replace dB := dB.hold H
    replace nC := nC.hold H
    replace dC := dC.hold H
    replace nE := nE.hold H
    replace dE := dE.hold H
    clear H
    have c0_0 := S.c 0 0 rfl rfl
    have c0_1 := S.c 0 1 rfl rfl
    have c0_2 := S.c 0 2 rfl rfl
    have c1_0 := S.c 1 0 rfl rfl
    have c1_1 := S.c 1 1 rfl rfl
    have c1_2 := S.c 1 2 rfl rfl
    generalize (.agg #[.bool bB, .slice pB lB KB, .slice qB jB JB] : Value) = k3
    generalize (.agg #[.bool bA, .slice pA lA KA, .slice qA jA JA] : Value) = k4
    generalize (.agg #[.bool bE, .slice pE lE KE, .slice qE jE JE] : Value) = k5
    have H := S.hnew 30 [.bool be, .slice pe le Ke, .slice qe je Je]
    replace S := S.alloc 30 [.bool be, .slice pe le Ke, .slice qe je Je] (w4.heap.size)
    try simp only [List.cons_append, List.nil_append] at S
    replace nA := nA.hold H
    replace dA := dA.hold H
    replace nB := nB.hold H
    replace dB := dB.hold H
    replace nC := nC.hold H
    replace dC := dC.hold H
    replace nE := nE.hold H
    replace dE := dE.hold H
    replace ne := ne.hold H
    replace de := de.hold H
    clear H
    clear c0_0 c0_1 c0_2 c1_0 c1_1 c1_2
    have c2_0 := S.c 2 0 rfl rfl
    have c2_1 := S.c 2 1 rfl rfl
    have c2_2 := S.c 2 2 rfl rfl
    have c4_0 := S.c 4 0 rfl rfl
    have c4_1 := S.c 4 1 rfl rfl
    have c4_2 := S.c 4 2 rfl rfl
    go_wp2_with fail
    generalize (.tuple #[.agg #[.bool be, .slice pe le Ke, .slice qe je Je], .int .i64 0] : Value) = g2
    clear c2_0 c2_1 c2_2 c4_0 c4_1 c4_2
    refine (S.call (radd_any ⟨bE, pE, lE, KE, qE, jE, JE, rfl, hE, nE, dE⟩ ⟨bC, pC, lC, KC, qC, jC, JC, rfl, hC, nC, dC⟩ RE.out RC.out (by decide) zF HF.out.1)).mono ?_
    clear S
    rintro e w5 ⟨⟨_, rfl, bF, pF, lF, KF, qF, jF, JF, rfl, hF, nF, dF⟩, S, H⟩
    replace nA := nA.hold H
    replace dA := dA.hold H
    replace nB := nB.hold H
    replace dB := dB.hold H
    replace nC := nC.hold H
    replace dC := dC.hold H
    replace nE := nE.hold H
    replace dE := dE.hold H
    replace ne := ne.hold H
    replace de := de.hold H
    clear H
    have c2_0 := S.c 2 0 rfl rfl
    have c2_1 := S.c 2 1 rfl rfl
    have c2_2 := S.c 2 2 rfl rfl
    have c4_0 := S.c 4 0 rfl rfl
    have c4_1 := S.c 4 1 rfl rfl
    have c4_2 := S.c 4 2 rfl rfl
    generalize (.agg #[.bool bE, .slice pE lE KE, .slice qE jE JE] : Value) = k6
    generalize (.agg #[.bool bC, .slice pC lC KC, .slice qC jC JC] : Value) = k7
    generalize (.agg #[.bool be, .slice pe le Ke, .slice qe je Je] : Value) = k8
    have H := S.hnew 30 [.bool bF, .slice pF lF KF, .slice qF jF JF]
    replace S := S.alloc 30 [.bool bF, .slice pF lF KF, .slice qF jF JF] (w5.heap.size)
    try simp only [List.cons_append, List.nil_append] at S
    replace nA := nA.hold H
    replace dA := dA.hold H
    replace nB := nB.hold H
    replace dB := dB.hold H
    replace nC := nC.hold H
    replace dC := dC.hold H
    replace nE := nE.hold H
    replace dE := dE.hold H
    replace ne := ne.hold H
    replace de := de.hold H
    replace nF := nF.hold H
    replace dF := dF.hold H
    clear H
    clear c2_0 c2_1 c2_2 c4_0 c4_1 c4_2
    have c1_0 := S.c 1 0 rfl rfl
    have c1_1 := S.c 1 1 rfl rfl
    have c1_2 := S.c 1 2 rfl rfl
    have c2_0 := S.c 2 0 rfl rfl
    have c2_1 := S.c 2 1 rfl rfl
    have c2_2 := S.c 2 2 rfl rfl
    go_wp2_with fail
    generalize (.tuple #[.agg #[.bool bF, .slice pF lF KF, .slice qF jF JF], .int .i64 0] : Value) = g3
    clear c1_0 c1_1 c1_2 c2_0 c2_1 c2_2
    refine (S.call (radd_any ⟨bB, pB, lB, KB, qB, jB, JB, rfl, hB, nB, dB⟩ ⟨bC, pC, lC, KC, qC, jC, JC, rfl, hC, nC, dC⟩ RBB.out RC.out (by decide) zG HG.out)).mono ?_
    clear S
    rintro e w6 ⟨⟨_, rfl, bG, pG, lG, KG, qG, jG, JG, rfl, hG, nG, dG⟩, S, H⟩
    replace nA := nA.hold H
    replace dA := dA.hold H
    replace nB := nB.hold H
    replace dB := dB.hold H
    replace nC := nC.hold H
    replace dC := dC.hold H
    replace nE := nE.hold H
    replace dE := dE.hold H
    replace ne := ne.hold H
    replace de := de.hold H
    replace nF := nF.hold H
    replace dF := dF.hold H
    clear H
    have c1_0 := S.c 1 0 rfl rfl
    have c1_1 := S.c 1 1 rfl rfl
    have c1_2 := S.c 1 2 rfl rfl
    have c2_0 := S.c 2 0 rfl rfl
    have c2_1 := S.c 2 1 rfl rfl
    have c2_2 := S.c 2 2 rfl rfl
    generalize (.agg #[.bool bB, .slice pB lB KB, .slice qB jB JB] : Value) = k9
    generalize (.agg #[.bool bC, .slice pC lC KC, .slice qC jC JC] : Value) = k10
    generalize (.agg #[.bool bF, .slice pF lF KF, .slice qF jF JF] : Value) = k11
    have H := S.hnew 30 [.bool bG, .slice pG lG KG, .slice qG jG JG]
    replace S := S.alloc 30 [.bool bG, .slice pG lG KG, .slice qG jG JG] (w6.heap.size)
    try simp only [List.cons_append, List.nil_append] at S
    replace nA := nA.hold H
    replace dA := dA.hold H
    replace nB := nB.hold H
    replace dB := dB.hold H
    replace nC := nC.hold H
    replace dC := dC.hold H
    replace nE := nE.hold H
    replace dE := dE.hold H
    replace ne := ne.hold H
    replace de := de.hold H
    replace nF := nF.hold H
    replace dF := dF.hold H
    replace nG := nG.hold H
    replace dG := dG.hold H
    clear H
    clear c1_0 c1_1 c1_2 c2_0 c2_1 c2_2
    have c0_0 := S.c 0 0 rfl rfl
    have c0_1 := S.c 0 1 rfl rfl
    have c0_2 := S.c 0 2 rfl rfl
    have c7_0 := S.c 7 0 rfl rfl
    have c7_1 := S.c 7 1 rfl rfl
    have c7_2 := S.c 7 2 rfl rfl
    go_wp2_with fail
    generalize (.tuple #[.agg #[.bool bG, .slice pG lG KG, .slice qG jG JG], .int .i64 0] : Value) = g4
    clear c0_0 c0_1 c0_2 c7_0 c7_1 c7_2
    refine (S.call (radd_any ⟨bA, pA, lA, KA, qA, jA, JA, rfl, hA, nA, dA⟩ ⟨bG, pG, lG, KG, qG, jG, JG, rfl, hG, nG, dG⟩ RA.out RG.out (by decide) zF HF.out.2.1)).mono ?_
    clear S
    rintro e w7 ⟨⟨_, rfl, bf, pf, lf, Kf, qf, jf, Jf, rfl, hf, nf, df⟩, S, H⟩
    replace nA := nA.hold H
    replace dA := dA.hold H
    replace nB := nB.hold H
    replace dB := dB.hold H
    replace nC := nC.hold H
    replace dC := dC.hold H
    replace nE := nE.hold H
    replace dE := dE.hold H
    replace ne := ne.hold H
    replace de := de.hold H
    replace nF := nF.hold H
    replace dF := dF.hold H
    replace nG := nG.hold H
    replace dG := dG.hold H
    clear H
    have c0_0 := S.c 0 0 rfl rfl
    have c0_1 := S.c 0 1 rfl rfl
    have c0_2 := S.c 0 2 rfl rfl
    have c7_0 := S.c 7 0 rfl rfl
    have c7_1 := S.c 7 1 rfl rfl
    have c7_2 := S.c 7 2 rfl rfl
    generalize (.agg #[.bool bA, .slice pA lA KA, .slice qA jA JA] : Value) = k12
    generalize (.agg #[.bool bG, .slice pG lG KG, .slice qG jG JG] : Value) = k13
    have H := S.hnew 30 [.bool bf, .slice pf lf Kf, .slice qf jf Jf]
    replace S := S.alloc 30 [.bool bf, .slice pf lf Kf, .slice qf jf Jf] (w7.heap.size)
    try simp only [List.cons_append, List.nil_append] at S
    replace nA := nA.hold H
    replace dA := dA.hold H
    replace nB := nB.hold H
    replace dB := dB.hold H
    replace nC := nC.hold H
    replace dC := dC.hold H
    replace nE := nE.hold H
    replace dE := dE.hold H
    replace ne := ne.hold H
    replace de := de.hold H
    replace nF := nF.hold H
    replace dF := dF.hold H
    replace nG := nG.hold H
    replace dG := dG.hold H
    replace nf := nf.hold H
    replace df := df.hold H
    clear H
    clear c0_0 c0_1 c0_2 c7_0 c7_1 c7_2
    have c1_0 := S.c 1 0 rfl rfl
    have c1_1 := S.c 1 1 rfl rfl
    have c1_2 := S.c 1 2 rfl rfl
    have c4_0 := S.c 4 0 rfl rfl
    have c4_1 := S.c 4 1 rfl rfl
    have c4_2 := S.c 4 2 rfl rfl
    go_wp2_with fail
    generalize (.tuple #[.agg #[.bool bf, .slice pf lf Kf, .slice qf jf Jf], .int .i64 0] : Value) = g5
    clear c1_0 c1_1 c1_2 c4_0 c4_1 c4_2
    refine (S.call (rsub_any ⟨bE, pE, lE, KE, qE, jE, JE, rfl, hE, nE, dE⟩ ⟨bB, pB, lB, KB, qB, jB, JB, rfl, hB, nB, dB⟩ RE.out RBB.out (by decide) zA HB.out)).mono ?_
    clear S
    rintro e w8 ⟨⟨_, rfl, ba, pa, la, Ka, qa, ja, Ja, rfl, ha, na, da⟩, S, H⟩
    replace nA := nA.hold H
    replace dA := dA.hold H
    replace nB := nB.hold H
    replace dB := dB.hold H
    replace nC := nC.hold H
    replace dC := dC.hold H
    replace nE := nE.hold H
    replace dE := dE.hold H
    replace ne := ne.hold H
    replace de := de.hold H
    replace nF := nF.hold H
    replace dF := dF.hold H
    replace nG := nG.hold H
    replace dG := dG.hold H
    replace nf := nf.hold H
    replace df := df.hold H
    clear H
    have c1_0 := S.c 1 0 rfl rfl
    have c1_1 := S.c 1 1 rfl rfl
    have c1_2 := S.c 1 2 rfl rfl
    have c4_0 := S.c 4 0 rfl rfl
    have c4_1 := S.c 4 1 rfl rfl
    have c4_2 := S.c 4 2 rfl rfl
    generalize (.agg #[.bool bE, .slice pE lE KE, .slice qE jE JE] : Value) = k14
    generalize (.agg #[.bool bB, .slice pB lB KB, .slice qB jB JB] : Value) = k15
    generalize (.agg #[.bool bf, .slice pf lf Kf, .slice qf jf Jf] : Value) = k16
    have H := S.hnew 30 [.bool ba, .slice pa la Ka, .slice qa ja Ja]
    replace S := S.alloc 30 [.bool ba, .slice pa la Ka, .slice qa ja Ja] (w8.heap.size)
    try simp only [List.cons_append, List.nil_append] at S
    replace nA := nA.hold H
    replace dA := dA.hold H
    replace nB := nB.hold H
    replace dB := dB.hold H
    replace nC := nC.hold H
    replace dC := dC.hold H
    replace nE := nE.hold H
    replace dE := dE.hold H
    replace ne := ne.hold H
    replace de := de.hold H
    replace nF := nF.hold H
    replace dF := dF.hold H
    replace nG := nG.hold H
    replace dG := dG.hold H
    replace nf := nf.hold H
    replace df := df.hold H
    replace na := na.hold H
    replace da := da.hold H
    clear H
    clear c1_0 c1_1 c1_2 c4_0 c4_1 c4_2
    have c0_0 := S.c 0 0 rfl rfl
    have c0_1 := S.c 0 1 rfl rfl
    have c0_2 := S.c 0 2 rfl rfl
    have c1_0 := S.c 1 0 rfl rfl
    have c1_1 := S.c 1 1 rfl rfl
    have c1_2 := S.c 1 2 rfl rfl
    go_wp2_with fail
    generalize (.tuple #[.agg #[.bool ba, .slice pa la Ka, .slice qa ja Ja], .int .i64 0] : Value) = g6
    clear c0_0 c0_1 c0_2 c1_0 c1_1 c1_2
    refine (S.call (rmul_any ⟨bA, pA, lA, KA, qA, jA, JA, rfl, hA, nA, dA⟩ ⟨bB, pB, lB, KB, qB, jB, JB, rfl, hB, nB, dB⟩ RA.out RBB.out (by decide) zP HP.out.1)).mono ?_
    clear S
    rintro e w9 ⟨⟨_, rfl, bP, pP, lP, KP, qP, jP, JP, rfl, hP, nP, dP⟩, S, H⟩
    replace nA := nA.hold H
    replace dA := dA.hold H
    replace nB := nB.hold H
    replace dB := dB.hold H
    replace nC := nC.hold H
    replace dC := dC.hold H
    replace nE := nE.hold H
    replace dE := dE.hold H
    replace ne := ne.hold H
    replace de := de.hold H
    replace nF := nF.hold H
    replace dF := dF.hold H
    replace nG := nG.hold H
    replace dG := dG.hold H
    replace nf := nf.hold H
    replace df := df.hold H
    replace na := na.hold H
    replace da := da.hold H
    clear H
    have c0_0 := S.c 0 0 rfl rfl
    have c0_1 := S.c 0 1 rfl rfl
    have c0_2 := S.c 0 2 rfl rfl
    have c1_0 := S.c 1 0 rfl rfl
    have c1_1 := S.c 1 1 rfl rfl
    have c1_2 := S.c 1 2 rfl rfl
    generalize (.agg #[.bool bA, .slice pA lA KA, .slice qA jA JA] : Value) = k17
    generalize (.agg #[.bool bB, .slice pB lB KB, .slice qB jB JB] : Value) = k18
    generalize (.agg #[.bool ba, .slice pa la Ka, .slice qa ja Ja] : Value) = k19
    have H := S.hnew 30 [.bool bP, .slice pP lP KP, .slice qP jP JP]
    replace S := S.alloc 30 [.bool bP, .slice pP lP KP, .slice qP jP JP] (w9.heap.size)
    try simp only [List.cons_append, List.nil_append] at S
    replace nA := nA.hold H
    replace dA := dA.hold H
    replace nB := nB.hold H
    replace dB := dB.hold H
    replace nC := nC.hold H
    replace dC := dC.hold H
    replace nE := nE.hold H
    replace dE := dE.hold H
    replace ne := ne.hold H
    replace de := de.hold H
    replace nF := nF.hold H
    replace dF := dF.hold H
    replace nG := nG.hold H
    replace dG := dG.hold H
    replace nf := nf.hold H
    replace df := df.hold H
    replace na := na.hold H
    replace da := da.hold H
    replace nP := nP.hold H
    replace dP := dP.hold H
    clear H
    clear c0_0 c0_1 c0_2 c1_0 c1_1 c1_2
    have c0_0 := S.c 0 0 rfl rfl
    have c0_1 := S.c 0 1 rfl rfl
    have c0_2 := S.c 0 2 rfl rfl
    have c1_0 := S.c 1 0 rfl rfl
    have c1_1 := S.c 1 1 rfl rfl
    have c1_2 := S.c 1 2 rfl rfl
    go_wp2_with fail
    generalize (.tuple #[.agg #[.bool bP, .slice pP lP KP, .slice qP jP JP], .int .i64 0] : Value) = g7
    clear c0_0 c0_1 c0_2 c1_0 c1_1 c1_2
    refine (S.call (rmul_any ⟨bB, pB, lB, KB, qB, jB, JB, rfl, hB, nB, dB⟩ ⟨bA, pA, lA, KA, qA, jA, JA, rfl, hA, nA, dA⟩ RBB.out RA.out (by decide) zP HP.out.2)).mono ?_
    clear S
    rintro e w10 ⟨⟨_, rfl, br, pr, lr, Kr, qr, jr, Jr, rfl, hr, nr, dr⟩, S, H⟩
    replace nA := nA.hold H
    replace dA := dA.hold H
    replace nB := nB.hold H
    replace dB := dB.hold H
    replace nC := nC.hold H
    replace dC := dC.hold H
    replace nE := nE.hold H
    replace dE := dE.hold H
    replace ne := ne.hold H
    replace de := de.hold H
    replace nF := nF.hold H
    replace dF := dF.hold H
    replace nG := nG.hold H
    replace dG := dG.hold H
    replace nf := nf.hold H
    replace df := df.hold H
    replace na := na.hold H
    replace da := da.hold H
    replace nP := nP.hold H
    replace dP := dP.hold H
    clear H
    have c0_0 := S.c 0 0 rfl rfl
    have c0_1 := S.c 0 1 rfl rfl
    have c0_2 := S.c 0 2 rfl rfl
    have c1_0 := S.c 1 0 rfl rfl
    have c1_1 := S.c 1 1 rfl rfl
    have c1_2 := S.c 1 2 rfl rfl
    generalize (.agg #[.bool bB, .slice pB lB KB, .slice qB jB JB] : Value) = k20
    generalize (.agg #[.bool bA, .slice pA lA KA, .slice qA jA JA] : Value) = k21
    generalize (.agg #[.bool bP, .slice pP lP KP, .slice qP jP JP] : Value) = k22
    have H := S.hnew 30 [.bool br, .slice pr lr Kr, .slice qr jr Jr]
    replace S := S.alloc 30 [.bool br, .slice pr lr Kr, .slice qr jr Jr] (w10.heap.size)
    try simp only [List.cons_append, List.nil_append] at S
    replace nA := nA.hold H
    replace dA := dA.hold H
    replace nB := nB.hold H
    replace dB := dB.hold H
    replace nC := nC.hold H
    replace dC := dC.hold H
    replace nE := nE.hold H
    replace dE := dE.hold H
    replace ne := ne.hold H
    replace de := de.hold H
    replace nF := nF.hold H
    replace dF := dF.hold H
    replace nG := nG.hold H
    replace dG := dG.hold H
    replace nf := nf.hold H
    replace df := df.hold H
    replace na := na.hold H
    replace da := da.hold H
    replace nP := nP.hold H
    replace dP := dP.hold H
    replace nr := nr.hold H
    replace dr := dr.hold H
    clear H
    clear c0_0 c0_1 c0_2 c1_0 c1_1 c1_2
    have c0_0 := S.c 0 0 rfl rfl
    have c0_1 := S.c 0 1 rfl rfl
    have c0_2 := S.c 0 2 rfl rfl
    have c2_0 := S.c 2 0 rfl rfl
    have c2_1 := S.c 2 1 rfl rfl
    have c2_2 := S.c 2 2 rfl rfl
    go_wp2_with fail
    generalize (.tuple #[.agg #[.bool br, .slice pr lr Kr, .slice qr jr Jr], .int .i64 0] : Value) = g8
    clear c0_0 c0_1 c0_2 c2_0 c2_1 c2_2
    refine (S.call (rmul_any ⟨bA, pA, lA, KA, qA, jA, JA, rfl, hA, nA, dA⟩ ⟨bC, pC, lC, KC, qC, jC, JC, rfl, hC, nC, dC⟩ RA.out RC.out (by decide) zR HR.out)).mono ?_
    clear S
    rintro e w11 ⟨⟨_, rfl, bR, pR, lR, KR, qR, jR, JR, rfl, hR, nR, dR⟩, S, H⟩
    replace nA := nA.hold H
    replace dA := dA.hold H
    replace nB := nB.hold H
    replace dB := dB.hold H
    replace nC := nC.hold H
    replace dC := dC.hold H
    replace nE := nE.hold H
    replace dE := dE.hold H
    replace ne := ne.hold H
    replace de := de.hold H
    replace nF := nF.hold H
    replace dF := dF.hold H
    replace nG := nG.hold H
    replace dG := dG.hold H
    replace nf := nf.hold H
    replace df := df.hold H
    replace na := na.hold H
    replace da := da.hold H
    replace nP := nP.hold H
    replace dP := dP.hold H
    replace nr := nr.hold H
    replace dr := dr.hold H
    clear H
    have c0_0 := S.c 0 0 rfl rfl
    have c0_1 := S.c 0 1 rfl rfl
    have c0_2 := S.c 0 2 rfl rfl
    have c2_0 := S.c 2 0 rfl rfl
    have c2_1 := S.c 2 1 rfl rfl
    have c2_2 := S.c 2 2 rfl rfl
    generalize (.agg #[.bool bA, .slice pA lA KA, .slice qA jA JA] : Value) = k23
    generalize (.agg #[.bool bC, .slice pC lC KC, .slice qC jC JC] : Value) = k24
    generalize (.agg #[.bool br, .slice pr lr Kr, .slice qr jr Jr] : Value) = k25
    have H := S.hnew 30 [.bool bR, .slice pR lR KR, .slice qR jR JR]
    replace S := S.alloc 30 [.bool bR, .slice pR lR KR, .slice qR jR JR] (w11.heap.size)
    try simp only [List.cons_append, List.nil_append] at S
    replace nA := nA.hold H
    replace dA := dA.hold H
    replace nB := nB.hold H
    replace dB := dB.hold H
    replace nC := nC.hold H
    replace dC := dC.hold H
    replace nE := nE.hold H
    replace dE := dE.hold H
    replace ne := ne.hold H
    replace de := de.hold H
    replace nF := nF.hold H
    replace dF := dF.hold H
    replace nG := nG.hold H
    replace dG := dG.hold H
    replace nf := nf.hold H
    replace df := df.hold H
    replace na := na.hold H
    replace da := da.hold H
    replace nP := nP.hold H
    replace dP := dP.hold H
    replace nr := nr.hold H
    replace dr := dr.hold H
    replace nR := nR.hold H
    replace dR := dR.hold H
    clear H
    clear c0_0 c0_1 c0_2 c2_0 c2_1 c2_2
    have c10_0 := S.c 10 0 rfl rfl
    have c10_1 := S.c 10 1 rfl rfl
    have c10_2 := S.c 10 2 rfl rfl
    have c12_0 := S.c 12 0 rfl rfl
    have c12_1 := S.c 12 1 rfl rfl
    have c12_2 := S.c 12 2 rfl rfl
    go_wp2_with fail
    generalize (.tuple #[.agg #[.bool bR, .slice pR lR KR, .slice qR jR JR], .int .i64 0] : Value) = g9
    clear c10_0 c10_1 c10_2 c12_0 c12_1 c12_2
    refine (S.call (radd_any ⟨bP, pP, lP, KP, qP, jP, JP, rfl, hP, nP, dP⟩ ⟨bR, pR, lR, KR, qR, jR, JR, rfl, hR, nR, dR⟩ RP.out RR.out (by decide) zT HT.out.1)).mono ?_
    clear S
    rintro e w12 ⟨⟨_, rfl, bT, pT, lT, KT, qT, jT, JT, rfl, hT, nT, dT⟩, S, H⟩
    replace nA := nA.hold H
    replace dA := dA.hold H
    replace nB := nB.hold H
    replace dB := dB.hold H
    replace nC := nC.hold H
    replace dC := dC.hold H
    replace nE := nE.hold H
    replace dE := dE.hold H
    replace ne := ne.hold H
    replace de := de.hold H
    replace nF := nF.hold H
    replace dF := dF.hold H
    replace nG := nG.hold H
    replace dG := dG.hold H
    replace nf := nf.hold H
    replace df := df.hold H
    replace na := na.hold H
    replace da := da.hold H
    replace nP := nP.hold H
    replace dP := dP.hold H
    replace nr := nr.hold H
    replace dr := dr.hold H
    replace nR := nR.hold H
    replace dR := dR.hold H
    clear H
    have c10_0 := S.c 10 0 rfl rfl
    have c10_1 := S.c 10 1 rfl rfl
    have c10_2 := S.c 10 2 rfl rfl
    have c12_0 := S.c 12 0 rfl rfl
    have c12_1 := S.c 12 1 rfl rfl
    have c12_2 := S.c 12 2 rfl rfl
    generalize (.agg #[.bool bP, .slice pP lP KP, .slice qP jP JP] : Value) = k26
    generalize (.agg #[.bool bR, .slice pR lR KR, .slice qR jR JR] : Value) = k27
    have H := S.hnew 30 [.bool bT, .slice pT lT KT, .slice qT jT JT]
    replace S := S.alloc 30 [.bool bT, .slice pT lT KT, .slice qT jT JT] (w12.heap.size)
    try simp only [List.cons_append, List.nil_append] at S
    replace nA := nA.hold H
    replace dA := dA.hold H
    replace nB := nB.hold H
    replace dB := dB.hold H
    replace nC := nC.hold H
    replace dC := dC.hold H
    replace nE := nE.hold H
    replace dE := dE.hold H
    replace ne := ne.hold H
    replace de := de.hold H
    replace nF := nF.hold H
    replace dF := dF.hold H
    replace nG := nG.hold H
    replace dG := dG.hold H
    replace nf := nf.hold H
    replace df := df.hold H
    replace na := na.hold H
    replace da := da.hold H
    replace nP := nP.hold H
    replace dP := dP.hold H
    replace nr := nr.hold H
    replace dr := dr.hold H
    replace nR := nR.hold H
    replace dR := dR.hold H
    replace nT := nT.hold H
    replace dT := dT.hold H
    clear H
    clear c10_0 c10_1 c10_2 c12_0 c12_1 c12_2
    have c0_0 := S.c 0 0 rfl rfl
    have c0_1 := S.c 0 1 rfl rfl
    have c0_2 := S.c 0 2 rfl rfl
    have c7_0 := S.c 7 0 rfl rfl
    have c7_1 := S.c 7 1 rfl rfl
    have c7_2 := S.c 7 2 rfl rfl
    go_wp2_with fail
    generalize (.tuple #[.agg #[.bool bT, .slice pT lT KT, .slice qT jT JT], .int .i64 0] : Value) = g10
    clear c0_0 c0_1 c0_2 c7_0 c7_1 c7_2
    refine (S.call (rmul_any ⟨bA, pA, lA, KA, qA, jA, JA, rfl, hA, nA, dA⟩ ⟨bG, pG, lG, KG, qG, jG, JG, rfl, hG, nG, dG⟩ RA.out RG.out (by decide) zT HT.out.2)).mono ?_
    clear S
    rintro e w13 ⟨⟨_, rfl, bt, pt, lt, Kt, qt, jt, Jt, rfl, ht, nt, dt⟩, S, H⟩
    replace nA := nA.hold H
    replace dA := dA.hold H
    replace nB := nB.hold H
    replace dB := dB.hold H
    replace nC := nC.hold H
    replace dC := dC.hold H
    replace nE := nE.hold H
    replace dE := dE.hold H
    replace ne := ne.hold H
    replace de := de.hold H
    replace nF := nF.hold H
    replace dF := dF.hold H
    replace nG := nG.hold H
    replace dG := dG.hold H
    replace nf := nf.hold H
    replace df := df.hold H
    replace na := na.hold H
    replace da := da.hold H
    replace nP := nP.hold H
    replace dP := dP.hold H
    replace nr := nr.hold H
    replace dr := dr.hold H
    replace nR := nR.hold H
    replace dR := dR.hold H
    replace nT := nT.hold H
    replace dT := dT.hold H
    clear H
    have c0_0 := S.c 0 0 rfl rfl
    have c0_1 := S.c 0 1 rfl rfl
    have c0_2 := S.c 0 2 rfl rfl
    have c7_0 := S.c 7 0 rfl rfl
    have c7_1 := S.c 7 1 rfl rfl
    have c7_2 := S.c 7 2 rfl rfl
    generalize (.agg #[.bool bA, .slice pA lA KA, .slice qA jA JA] : Value) = k28
    generalize (.agg #[.bool bG, .slice pG lG KG, .slice qG jG JG] : Value) = k29
    generalize (.agg #[.bool bT, .slice pT lT KT, .slice qT jT JT] : Value) = k30
    have H := S.hnew 30 [.bool bt, .slice pt lt Kt, .slice qt jt Jt]
    replace S := S.alloc 30 [.bool bt, .slice pt lt Kt, .slice qt jt Jt] (w13.heap.size)
    try simp only [List.cons_append, List.nil_append] at S
    replace nA := nA.hold H
    replace dA := dA.hold H
    replace nB := nB.hold H
    replace dB := dB.hold H
    replace nC := nC.hold H
    replace dC := dC.hold H
    replace nE := nE.hold H
    replace dE := dE.hold H
    replace ne := ne.hold H
    replace de := de.hold H
    replace nF := nF.hold H
    replace dF := dF.hold H
    replace nG := nG.hold H
    replace dG := dG.hold H
    replace nf := nf.hold H
    replace df := df.hold H
    replace na := na.hold H
    replace da := da.hold H
    replace nP := nP.hold H
    replace dP := dP.hold H
    replace nr := nr.hold H
    replace dr := dr.hold H
    replace nR := nR.hold H
    replace dR := dR.hold H
    replace nT := nT.hold H
    replace dT := dT.hold H
    replace nt := nt.hold H
    replace dt := dt.hold H
    clear H
    clear c0_0 c0_1 c0_2 c7_0 c7_1 c7_2
    have c0_0 := S.c 0 0 rfl rfl
    have c0_1 := S.c 0 1 rfl rfl
    have c0_2 := S.c 0 2 rfl rfl
    have c1_0 := S.c 1 0 rfl rfl
    have c1_1 := S.c 1 1 rfl rfl
    have c1_2 := S.c 1 2 rfl rfl
    have c2_0 := S.c 2 0 rfl rfl
    have c2_1 := S.c 2 1 rfl rfl
    have c2_2 := S.c 2 2 rfl rfl
    have H := S.hnew 30 [.bool bC, .slice pC lC KC, .slice qC jC JC, .bool bB, .slice pB lB KB, .slice qB jB JB, .bool bA, .slice pA lA KA, .slice qA jA JA]
    replace S := S.alloc 30 [.bool bC, .slice pC lC KC, .slice qC jC JC, .bool bB, .slice pB lB KB, .slice qB jB JB, .bool bA, .slice pA lA KA, .slice qA jA JA] (w13.heap.size + 1)
    try simp only [List.cons_append, List.nil_append] at S
    replace nA := nA.hold H
    replace dA := dA.hold H
    replace nB := nB.hold H
    replace dB := dB.hold H
    replace nC := nC.hold H
    replace dC := dC.hold H
    replace nE := nE.hold H
    replace dE := dE.hold H
    replace ne := ne.hold H
    replace de := de.hold H
    replace nF := nF.hold H
    replace dF := dF.hold H
    replace nG := nG.hold H
    replace dG := dG.hold H
    replace nf := nf.hold H
    replace df := df.hold H
    replace na := na.hold H
    replace da := da.hold H
    replace nP := nP.hold H
    replace dP := dP.hold H
    replace nr := nr.hold H
    replace dr := dr.hold H
    replace nR := nR.hold H
    replace dR := dR.hold H
    replace nT := nT.hold H
    replace dT := dT.hold H
    replace nt := nt.hold H
    replace dt := dt.hold H
    clear H
    go_wp2_with fail
    generalize (.tuple #[.agg #[.bool bt, .slice pt lt Kt, .slice qt jt Jt], .int .i64 0] : Value) = g11
    clear c0_0 c0_1 c0_2 c1_0 c1_1 c1_2 c2_0 c2_1 c2_2
    refine (S.call (rsum3 (rats3 S 15 rfl hC hB hA nC dC nB dB nA dA) 20 RC.out RBB.out RA.out (by decide) zF HF.out.2.2)).mono ?_
    clear S
    rintro e w14 ⟨⟨_, rfl, bs, ps, ls, Ks, qs, js, Js, rfl, hs, ns, ds⟩, S, H⟩
    replace nA := nA.hold H
    replace dA := dA.hold H
    replace nB := nB.hold H
    replace dB := dB.hold H
    replace nC := nC.hold H
    replace dC := dC.hold H
    replace nE := nE.hold H
    replace dE := dE.hold H
    replace ne := ne.hold H
    replace de := de.hold H
    replace nF := nF.hold H
    replace dF := dF.hold H
    replace nG := nG.hold H
    replace dG := dG.hold H
    replace nf := nf.hold H
    replace df := df.hold H
    replace na := na.hold H
    replace da := da.hold H
    replace nP := nP.hold H
    replace dP := dP.hold H
    replace nr := nr.hold H
    replace dr := dr.hold H
    replace nR := nR.hold H
    replace dR := dR.hold H
    replace nT := nT.hold H
    replace dT := dT.hold H
    replace nt := nt.hold H
    replace dt := dt.hold H
    clear H
    have c0_0 := S.c 0 0 rfl rfl
    have c0_1 := S.c 0 1 rfl rfl
    have c0_2 := S.c 0 2 rfl rfl
    have c1_0 := S.c 1 0 rfl rfl
    have c1_1 := S.c 1 1 rfl rfl
    have c1_2 := S.c 1 2 rfl rfl
    have c2_0 := S.c 2 0 rfl rfl
    have c2_1 := S.c 2 1 rfl rfl
    have c2_2 := S.c 2 2 rfl rfl
    generalize (.agg #[.bool bC, .slice pC lC KC, .slice qC jC JC] : Value) = k31
    generalize (.agg #[.bool bB, .slice pB lB KB, .slice qB jB JB] : Value) = k32
    generalize (.agg #[.bool bA, .slice pA lA KA, .slice qA jA JA] : Value) = k33
    generalize (.agg #[.bool bt, .slice pt lt Kt, .slice qt jt Jt] : Value) = k34
    have H := S.hnew 30 [.bool bs, .slice ps ls Ks, .slice qs js Js]
    replace S := S.alloc 30 [.bool bs, .slice ps ls Ks, .slice qs js Js] (w14.heap.size)
    try simp only [List.cons_append, List.nil_append] at S
    replace nA := nA.hold H
    replace dA := dA.hold H
    replace nB := nB.hold H
    replace dB := dB.hold H
    replace nC := nC.hold H
    replace dC := dC.hold H
    replace nE := nE.hold H
    replace dE := dE.hold H
    replace ne := ne.hold H
    replace de := de.hold H
    replace nF := nF.hold H
    replace dF := dF.hold H
    replace nG := nG.hold H
    replace dG := dG.hold H
    replace nf := nf.hold H
    replace df := df.hold H
    replace na := na.hold H
    replace da := da.hold H
    replace nP := nP.hold H
    replace dP := dP.hold H
    replace nr := nr.hold H
    replace dr := dr.hold H
    replace nR := nR.hold H
    replace dR := dR.hold H
    replace nT := nT.hold H
    replace dT := dT.hold H
    replace nt := nt.hold H
    replace dt := dt.hold H
    replace ns := ns.hold H
    replace ds := ds.hold H
    clear H
    clear c0_0 c0_1 c0_2 c1_0 c1_1 c1_2 c2_0 c2_1 c2_2
    have c4_0 := S.c 4 0 rfl rfl
    have c4_1 := S.c 4 1 rfl rfl
    have c4_2 := S.c 4 2 rfl rfl
    have c5_0 := S.c 5 0 rfl rfl
    have c5_1 := S.c 5 1 rfl rfl
    have c5_2 := S.c 5 2 rfl rfl
    go_wp2_with fail
    generalize (.tuple #[.agg #[.bool bs, .slice ps ls Ks, .slice qs js Js], .int .i64 0] : Value) = g12
    clear c4_0 c4_1 c4_2 c5_0 c5_1 c5_2
    refine (S.call (same_any ⟨bE, pE, lE, KE, qE, jE, JE, rfl, hE, nE, dE⟩ ⟨be, pe, le, Ke, qe, je, Je, rfl, he, ne, de⟩ (rb_max RE.out (by decide)) (rb_max RE.out (by decide)) (r := true) (by simp))).mono ?_
    clear S
    rintro e w15 ⟨rfl, S, H⟩
    replace nA := nA.hold H
    replace dA := dA.hold H
    replace nB := nB.hold H
    replace dB := dB.hold H
    replace nC := nC.hold H
    replace dC := dC.hold H
    replace nE := nE.hold H
    replace dE := dE.hold H
    replace ne := ne.hold H
    replace de := de.hold H
    replace nF := nF.hold H
    replace dF := dF.hold H
    replace nG := nG.hold H
    replace dG := dG.hold H
    replace nf := nf.hold H
    replace df := df.hold H
    replace na := na.hold H
    replace da := da.hold H
    replace nP := nP.hold H
    replace dP := dP.hold H
    replace nr := nr.hold H
    replace dr := dr.hold H
    replace nR := nR.hold H
    replace dR := dR.hold H
    replace nT := nT.hold H
    replace dT := dT.hold H
    replace nt := nt.hold H
    replace dt := dt.hold H
    replace ns := ns.hold H
    replace ds := ds.hold H
    clear H
    have c4_0 := S.c 4 0 rfl rfl
    have c4_1 := S.c 4 1 rfl rfl
    have c4_2 := S.c 4 2 rfl rfl
    have c5_0 := S.c 5 0 rfl rfl
    have c5_1 := S.c 5 1 rfl rfl
    have c5_2 := S.c 5 2 rfl rfl
    generalize (.agg #[.bool bE, .slice pE lE KE, .slice qE jE JE] : Value) = k35
    generalize (.agg #[.bool be, .slice pe le Ke, .slice qe je Je] : Value) = k36
    generalize (.agg #[.bool bs, .slice ps ls Ks, .slice qs js Js] : Value) = k37
    clear c4_0 c4_1 c4_2 c5_0 c5_1 c5_2
    have c6_0 := S.c 6 0 rfl rfl
    have c6_1 := S.c 6 1 rfl rfl
    have c6_2 := S.c 6 2 rfl rfl
    have c8_0 := S.c 8 0 rfl rfl
    have c8_1 := S.c 8 1 rfl rfl
    have c8_2 := S.c 8 2 rfl rfl
    go_wp2_with fail
    clear c6_0 c6_1 c6_2 c8_0 c8_1 c8_2
    refine (S.call (same_any ⟨bF, pF, lF, KF, qF, jF, JF, rfl, hF, nF, dF⟩ ⟨bf, pf, lf, Kf, qf, jf, Jf, rfl, hf, nf, df⟩ (rb_max RF.out (by decide)) (rb_max RF.out (by decide)) (r := true) (by simp))).mono ?_
    clear S
    rintro e w16 ⟨rfl, S, H⟩
    replace nA := nA.hold H
    replace dA := dA.hold H
    replace nB := nB.hold H
    replace dB := dB.hold H
    replace nC := nC.hold H
    replace dC := dC.hold H
    replace nE := nE.hold H
    replace dE := dE.hold H
    replace ne := ne.hold H
    replace de := de.hold H
    replace nF := nF.hold H
    replace dF := dF.hold H
    replace nG := nG.hold H
    replace dG := dG.hold H
    replace nf := nf.hold H
    replace df := df.hold H
    replace na := na.hold H
    replace da := da.hold H
    replace nP := nP.hold H
    replace dP := dP.hold H
    replace nr := nr.hold H
    replace dr := dr.hold H
    replace nR := nR.hold H
    replace dR := dR.hold H
    replace nT := nT.hold H
    replace dT := dT.hold H
    replace nt := nt.hold H
    replace dt := dt.hold H
    replace ns := ns.hold H
    replace ds := ds.hold H
    clear H
    have c6_0 := S.c 6 0 rfl rfl
    have c6_1 := S.c 6 1 rfl rfl
    have c6_2 := S.c 6 2 rfl rfl
    have c8_0 := S.c 8 0 rfl rfl
    have c8_1 := S.c 8 1 rfl rfl
    have c8_2 := S.c 8 2 rfl rfl
    generalize (.agg #[.bool bF, .slice pF lF KF, .slice qF jF JF] : Value) = k38
    generalize (.agg #[.bool bf, .slice pf lf Kf, .slice qf jf Jf] : Value) = k39
    clear c6_0 c6_1 c6_2 c8_0 c8_1 c8_2
    have c0_0 := S.c 0 0 rfl rfl
    have c0_1 := S.c 0 1 rfl rfl
    have c0_2 := S.c 0 2 rfl rfl
    have c9_0 := S.c 9 0 rfl rfl
    have c9_1 := S.c 9 1 rfl rfl
    have c9_2 := S.c 9 2 rfl rfl
    go_wp2_with fail
    clear c0_0 c0_1 c0_2 c9_0 c9_1 c9_2
    refine (S.call (same_any ⟨ba, pa, la, Ka, qa, ja, Ja, rfl, ha, na, da⟩ ⟨bA, pA, lA, KA, qA, jA, JA, rfl, hA, nA, dA⟩ (rb_max RA.out (by decide)) (rb_max RA.out (by decide)) (r := true) (by simp))).mono ?_
    clear S
    rintro e w17 ⟨rfl, S, H⟩
    replace nA := nA.hold H
    replace dA := dA.hold H
    replace nB := nB.hold H
    replace dB := dB.hold H
    replace nC := nC.hold H
    replace dC := dC.hold H
    replace nE := nE.hold H
    replace dE := dE.hold H
    replace ne := ne.hold H
    replace de := de.hold H
    replace nF := nF.hold H
    replace dF := dF.hold H
    replace nG := nG.hold H
    replace dG := dG.hold H
    replace nf := nf.hold H
    replace df := df.hold H
    replace na := na.hold H
    replace da := da.hold H
    replace nP := nP.hold H
    replace dP := dP.hold H
    replace nr := nr.hold H
    replace dr := dr.hold H
    replace nR := nR.hold H
    replace dR := dR.hold H
    replace nT := nT.hold H
    replace dT := dT.hold H
    replace nt := nt.hold H
    replace dt := dt.hold H
    replace ns := ns.hold H
    replace ds := ds.hold H
    clear H
    have c0_0 := S.c 0 0 rfl rfl
    have c0_1 := S.c 0 1 rfl rfl
    have c0_2 := S.c 0 2 rfl rfl
    have c9_0 := S.c 9 0 rfl rfl
    have c9_1 := S.c 9 1 rfl rfl
    have c9_2 := S.c 9 2 rfl rfl
    generalize (.agg #[.bool ba, .slice pa la Ka, .slice qa ja Ja] : Value) = k40
    generalize (.agg #[.bool bA, .slice pA lA KA, .slice qA jA JA] : Value) = k41
    clear c0_0 c0_1 c0_2 c9_0 c9_1 c9_2
    have c10_0 := S.c 10 0 rfl rfl
    have c10_1 := S.c 10 1 rfl rfl
    have c10_2 := S.c 10 2 rfl rfl
    have c11_0 := S.c 11 0 rfl rfl
    have c11_1 := S.c 11 1 rfl rfl
    have c11_2 := S.c 11 2 rfl rfl
    go_wp2_with fail
    clear c10_0 c10_1 c10_2 c11_0 c11_1 c11_2
    refine (S.call (same_any ⟨bP, pP, lP, KP, qP, jP, JP, rfl, hP, nP, dP⟩ ⟨br, pr, lr, Kr, qr, jr, Jr, rfl, hr, nr, dr⟩ (rb_max RP.out (by decide)) (rb_max RP.out (by decide)) (r := true) (by simp))).mono ?_
    clear S
    rintro e w18 ⟨rfl, S, H⟩
    replace nA := nA.hold H
    replace dA := dA.hold H
    replace nB := nB.hold H
    replace dB := dB.hold H
    replace nC := nC.hold H
    replace dC := dC.hold H
    replace nE := nE.hold H
    replace dE := dE.hold H
    replace ne := ne.hold H
    replace de := de.hold H
    replace nF := nF.hold H
    replace dF := dF.hold H
    replace nG := nG.hold H
    replace dG := dG.hold H
    replace nf := nf.hold H
    replace df := df.hold H
    replace na := na.hold H
    replace da := da.hold H
    replace nP := nP.hold H
    replace dP := dP.hold H
    replace nr := nr.hold H
    replace dr := dr.hold H
    replace nR := nR.hold H
    replace dR := dR.hold H
    replace nT := nT.hold H
    replace dT := dT.hold H
    replace nt := nt.hold H
    replace dt := dt.hold H
    replace ns := ns.hold H
    replace ds := ds.hold H
    clear H
    have c10_0 := S.c 10 0 rfl rfl
    have c10_1 := S.c 10 1 rfl rfl
    have c10_2 := S.c 10 2 rfl rfl
    have c11_0 := S.c 11 0 rfl rfl
    have c11_1 := S.c 11 1 rfl rfl
    have c11_2 := S.c 11 2 rfl rfl
    generalize (.agg #[.bool bP, .slice pP lP KP, .slice qP jP JP] : Value) = k42
    generalize (.agg #[.bool br, .slice pr lr Kr, .slice qr jr Jr] : Value) = k43
    clear c10_0 c10_1 c10_2 c11_0 c11_1 c11_2
    have c13_0 := S.c 13 0 rfl rfl
    have c13_1 := S.c 13 1 rfl rfl
    have c13_2 := S.c 13 2 rfl rfl
    have c14_0 := S.c 14 0 rfl rfl
    have c14_1 := S.c 14 1 rfl rfl
    have c14_2 := S.c 14 2 rfl rfl
    go_wp2_with fail
    clear c13_0 c13_1 c13_2 c14_0 c14_1 c14_2
    refine (S.call (same_any ⟨bT, pT, lT, KT, qT, jT, JT, rfl, hT, nT, dT⟩ ⟨bt, pt, lt, Kt, qt, jt, Jt, rfl, ht, nt, dt⟩ (rb_max RT.out (by decide)) (rb_max RT.out (by decide)) (r := true) (by simp))).mono ?_
    clear S
    rintro e w19 ⟨rfl, S, H⟩
    replace nA := nA.hold H
    replace dA := dA.hold H
    replace nB := nB.hold H
    replace dB := dB.hold H
    replace nC := nC.hold H
    replace dC := dC.hold H
    replace nE := nE.hold H
    replace dE := dE.hold H
    replace ne := ne.hold H
    replace de := de.hold H
    replace nF := nF.hold H
    replace dF := dF.hold H
    replace nG := nG.hold H
    replace dG := dG.hold H
    replace nf := nf.hold H
    replace df := df.hold H
    replace na := na.hold H
    replace da := da.hold H
    replace nP := nP.hold H
    replace dP := dP.hold H
    replace nr := nr.hold H
    replace dr := dr.hold H
    replace nR := nR.hold H
    replace dR := dR.hold H
    replace nT := nT.hold H
    replace dT := dT.hold H
    replace nt := nt.hold H
    replace dt := dt.hold H
    replace ns := ns.hold H
    replace ds := ds.hold H
    clear H
    have c13_0 := S.c 13 0 rfl rfl
    have c13_1 := S.c 13 1 rfl rfl
    have c13_2 := S.c 13 2 rfl rfl
    have c14_0 := S.c 14 0 rfl rfl
    have c14_1 := S.c 14 1 rfl rfl
    have c14_2 := S.c 14 2 rfl rfl
    generalize (.agg #[.bool bT, .slice pT lT KT, .slice qT jT JT] : Value) = k44
    generalize (.agg #[.bool bt, .slice pt lt Kt, .slice qt jt Jt] : Value) = k45
    clear c13_0 c13_1 c13_2 c14_0 c14_1 c14_2
    have c6_0 := S.c 6 0 rfl rfl
    have c6_1 := S.c 6 1 rfl rfl
    have c6_2 := S.c 6 2 rfl rfl
    have c16_0 := S.c 16 0 rfl rfl
    have c16_1 := S.c 16 1 rfl rfl
    have c16_2 := S.c 16 2 rfl rfl
    go_wp2_with fail
    clear c6_0 c6_1 c6_2 c16_0 c16_1 c16_2
    refine (S.call (same_any ⟨bs, ps, ls, Ks, qs, js, Js, rfl, hs, ns, ds⟩ ⟨bF, pF, lF, KF, qF, jF, JF, rfl, hF, nF, dF⟩ (rb_max RF.out (by decide)) (rb_max RF.out (by decide)) (r := true) (by simp))).mono ?_
    clear S
    rintro e w20 ⟨rfl, S, H⟩
    replace nA := nA.hold H
    replace dA := dA.hold H
    replace nB := nB.hold H
    replace dB := dB.hold H
    replace nC := nC.hold H
    replace dC := dC.hold H
    replace nE := nE.hold H
    replace dE := dE.hold H
    replace ne := ne.hold H
    replace de := de.hold H
    replace nF := nF.hold H
    replace dF := dF.hold H
    replace nG := nG.hold H
    replace dG := dG.hold H
    replace nf := nf.hold H
    replace df := df.hold H
    replace na := na.hold H
    replace da := da.hold H
    replace nP := nP.hold H
    replace dP := dP.hold H
    replace nr := nr.hold H
    replace dr := dr.hold H
    replace nR := nR.hold H
    replace dR := dR.hold H
    replace nT := nT.hold H
    replace dT := dT.hold H
    replace nt := nt.hold H
    replace dt := dt.hold H
    replace ns := ns.hold H
    replace ds := ds.hold H
    clear H
    have c6_0 := S.c 6 0 rfl rfl
    have c6_1 := S.c 6 1 rfl rfl
    have c6_2 := S.c 6 2 rfl rfl
    have c16_0 := S.c 16 0 rfl rfl
    have c16_1 := S.c 16 1 rfl rfl
    have c16_2 := S.c 16 2 rfl rfl
    generalize (.agg #[.bool bs, .slice ps ls Ks, .slice qs js Js] : Value) = k46
    generalize (.agg #[.bool bF, .slice pF lF KF, .slice qF jF JF] : Value) = k47
    clear c6_0 c6_1 c6_2 c16_0 c16_1 c16_2
    have c6_0 := S.c 6 0 rfl rfl
    have c6_1 := S.c 6 1 rfl rfl
    have c6_2 := S.c 6 2 rfl rfl
    go_wp2_with fail
    clear c6_0 c6_1 c6_2
    refine (S.call (rcheck_any ⟨bF, pF, lF, KF, qF, jF, JF, rfl, hF, nF, dF⟩ (rb_max RF.out (by decide)))).mono ?_
    clear S
    rintro e w21 ⟨rfl, S, H⟩
    replace nA := nA.hold H
    replace dA := dA.hold H
    replace nB := nB.hold H
    replace dB := dB.hold H
    replace nC := nC.hold H
    replace dC := dC.hold H
    replace nE := nE.hold H
    replace dE := dE.hold H
    replace ne := ne.hold H
    replace de := de.hold H
    replace nF := nF.hold H
    replace dF := dF.hold H
    replace nG := nG.hold H
    replace dG := dG.hold H
    replace nf := nf.hold H
    replace df := df.hold H
    replace na := na.hold H
    replace da := da.hold H
    replace nP := nP.hold H
    replace dP := dP.hold H
    replace nr := nr.hold H
    replace dr := dr.hold H
    replace nR := nR.hold H
    replace dR := dR.hold H
    replace nT := nT.hold H
    replace dT := dT.hold H
    replace nt := nt.hold H
    replace dt := dt.hold H
    replace ns := ns.hold H
    replace ds := ds.hold H
    clear H
    have c6_0 := S.c 6 0 rfl rfl
    have c6_1 := S.c 6 1 rfl rfl
    have c6_2 := S.c 6 2 rfl rfl
    clear c6_0 c6_1 c6_2
    have c10_0 := S.c 10 0 rfl rfl
    have c10_1 := S.c 10 1 rfl rfl
    have c10_2 := S.c 10 2 rfl rfl
    go_wp2_with fail
    clear c10_0 c10_1 c10_2
    refine (S.call (rcheck_any ⟨bP, pP, lP, KP, qP, jP, JP, rfl, hP, nP, dP⟩ (rb_max RP.out (by decide)))).mono ?_
    clear S
    rintro e w22 ⟨rfl, S, H⟩
    replace nA := nA.hold H
    replace dA := dA.hold H
    replace nB := nB.hold H
    replace dB := dB.hold H
    replace nC := nC.hold H
    replace dC := dC.hold H
    replace nE := nE.hold H
    replace dE := dE.hold H
    replace ne := ne.hold H
    replace de := de.hold H
    replace nF := nF.hold H
    replace dF := dF.hold H
    replace nG := nG.hold H
    replace dG := dG.hold H
    replace nf := nf.hold H
    replace df := df.hold H
    replace na := na.hold H
    replace da := da.hold H
    replace nP := nP.hold H
    replace dP := dP.hold H
    replace nr := nr.hold H
    replace dr := dr.hold H
    replace nR := nR.hold H
    replace dR := dR.hold H
    replace nT := nT.hold H
    replace dT := dT.hold H
    replace nt := nt.hold H
    replace dt := dt.hold H
    replace ns := ns.hold H
    replace ds := ds.hold H
    clear H
    have c10_0 := S.c 10 0 rfl rfl
    have c10_1 := S.c 10 1 rfl rfl
    have c10_2 := S.c 10 2 rfl rfl
    by_cases h0 : zB = 0
    · subst h0
      clear c10_0 c10_1 c10_2
      have c1_0 := S.c 1 0 rfl rfl
      have c1_1 := S.c 1 1 rfl rfl
      have c1_2 := S.c 1 2 rfl rfl
      have c10_0 := S.c 10 0 rfl rfl
      have c10_1 := S.c 10 1 rfl rfl
      have c10_2 := S.c 10 2 rfl rfl
      go_wp2_with fail
      clear c1_0 c1_1 c1_2 c10_0 c10_1 c10_2
      refine (S.call (rdiv_zero ⟨bP, pP, lP, KP, qP, jP, JP, rfl, hP, nP, dP⟩ ⟨bB, pB, lB, KB, qB, jB, JB, rfl, hB, nB, dB⟩)).mono ?_
      clear S
      rintro e w23 ⟨⟨_, rfl, bU, pU, lU, KU, qU, jU, JU, rfl, hU, nU, dU⟩, S, H⟩
      replace nA := nA.hold H
      replace dA := dA.hold H
      replace nB := nB.hold H
      replace dB := dB.hold H
      replace nC := nC.hold H
      replace dC := dC.hold H
      replace nE := nE.hold H
      replace dE := dE.hold H
      replace ne := ne.hold H
      replace de := de.hold H
      replace nF := nF.hold H
      replace dF := dF.hold H
      replace nG := nG.hold H
      replace dG := dG.hold H
      replace nf := nf.hold H
      replace df := df.hold H
      replace na := na.hold H
      replace da := da.hold H
      replace nP := nP.hold H
      replace dP := dP.hold H
      replace nr := nr.hold H
      replace dr := dr.hold H
      replace nR := nR.hold H
      replace dR := dR.hold H
      replace nT := nT.hold H
      replace dT := dT.hold H
      replace nt := nt.hold H
      replace dt := dt.hold H
      replace ns := ns.hold H
      replace ds := ds.hold H
      clear H
      have c1_0 := S.c 1 0 rfl rfl
      have c1_1 := S.c 1 1 rfl rfl
      have c1_2 := S.c 1 2 rfl rfl
      have c10_0 := S.c 10 0 rfl rfl
      have c10_1 := S.c 10 1 rfl rfl
      have c10_2 := S.c 10 2 rfl rfl
      have H := S.hnew 30 [.bool bU, .slice pU lU KU, .slice qU jU JU]
      replace S := S.alloc 30 [.bool bU, .slice pU lU KU, .slice qU jU JU] (w23.heap.size)
      try simp only [List.cons_append, List.nil_append] at S
      replace nA := nA.hold H
      replace dA := dA.hold H
      replace nB := nB.hold H
      replace dB := dB.hold H
      replace nC := nC.hold H
      replace dC := dC.hold H
      replace nE := nE.hold H
      replace dE := dE.hold H
      replace ne := ne.hold H
      replace de := de.hold H
      replace nF := nF.hold H
      replace dF := dF.hold H
      replace nG := nG.hold H
      replace dG := dG.hold H
      replace nf := nf.hold H
      replace df := df.hold H
      replace na := na.hold H
      replace da := da.hold H
      replace nP := nP.hold H
      replace dP := dP.hold H
      replace nr := nr.hold H
      replace dr := dr.hold H
      replace nR := nR.hold H
      replace dR := dR.hold H
      replace nT := nT.hold H
      replace dT := dT.hold H
      replace nt := nt.hold H
      replace dt := dt.hold H
      replace ns := ns.hold H
      replace ds := ds.hold H
      replace nU := nU.hold H
      replace dU := dU.hold H
      clear H
      clear c1_0 c1_1 c1_2 c10_0 c10_1 c10_2
      have c1_0 := S.c 1 0 rfl rfl
      have c1_1 := S.c 1 1 rfl rfl
      have c1_2 := S.c 1 2 rfl rfl
      go_wp2_with fail
      clear c1_0 c1_1 c1_2
      refine (S.call (rsign_any (s := 0) ⟨bB, pB, lB, KB, qB, jB, JB, rfl, hB, nB, dB⟩ (rb_max RBB.out (by decide)).1 rfl)).mono ?_
      clear S
      rintro e w24 ⟨rfl, S, H⟩
      replace nA := nA.hold H
      replace dA := dA.hold H
      replace nB := nB.hold H
      replace dB := dB.hold H
      replace nC := nC.hold H
      replace dC := dC.hold H
      replace nE := nE.hold H
      replace dE := dE.hold H
      replace ne := ne.hold H
      replace de := de.hold H
      replace nF := nF.hold H
      replace dF := dF.hold H
      replace nG := nG.hold H
      replace dG := dG.hold H
      replace nf := nf.hold H
      replace df := df.hold H
      replace na := na.hold H
      replace da := da.hold H
      replace nP := nP.hold H
      replace dP := dP.hold H
      replace nr := nr.hold H
      replace dr := dr.hold H
      replace nR := nR.hold H
      replace dR := dR.hold H
      replace nT := nT.hold H
      replace dT := dT.hold H
      replace nt := nt.hold H
      replace dt := dt.hold H
      replace ns := ns.hold H
      replace ds := ds.hold H
      replace nU := nU.hold H
      replace dU := dU.hold H
      clear H
      have c1_0 := S.c 1 0 rfl rfl
      have c1_1 := S.c 1 1 rfl rfl
      have c1_2 := S.c 1 2 rfl rfl
      go_wp2_with fail
      exact bodyPost_ret (v := .bool true) (by simp [results, Try.f4, go_sem]) rfl (⟨rfl, S.below⟩)
    · obtain ⟨s, hs⟩ : ∃ s, zB.num.sign = s := ⟨_, rfl⟩
      have hs0 : ¬ s = 0 := by rw [← hs]; exact fun h => num_ne h0 (Int.sign_eq_zero_iff_zero.1 h)
      have hs1 : (s == 0) = false := by simpa using hs0
      have HSG := Lib.hid hs; have HZ := Lib.hid h0
      clear hs h0
      clear c10_0 c10_1 c10_2
      have c1_0 := S.c 1 0 rfl rfl
      have c1_1 := S.c 1 1 rfl rfl
      have c1_2 := S.c 1 2 rfl rfl
      have c10_0 := S.c 10 0 rfl rfl
      have c10_1 := S.c 10 1 rfl rfl
      have c10_2 := S.c 10 2 rfl rfl
      go_wp2_with fail
      clear c1_0 c1_1 c1_2 c10_0 c10_1 c10_2
      refine (S.call (rdiv_any ⟨bP, pP, lP, KP, qP, jP, JP, rfl, hP, nP, dP⟩ ⟨bB, pB, lB, KB, qB, jB, JB, rfl, hB, nB, dB⟩ RP.out RBB.out (by decide) HZ.out zA (HV.out HZ.out))).mono ?_
      clear S
      rintro e w23 ⟨⟨_, rfl, bU, pU, lU, KU, qU, jU, JU, rfl, hU, nU, dU⟩, S, H⟩
      replace nA := nA.hold H
      replace dA := dA.hold H
      replace nB := nB.hold H
      replace dB := dB.hold H
      replace nC := nC.hold H
      replace dC := dC.hold H
      replace nE := nE.hold H
      replace dE := dE.hold H
      replace ne := ne.hold H
      replace de := de.hold H
      replace nF := nF.hold H
      replace dF := dF.hold H
      replace nG := nG.hold H
      replace dG := dG.hold H
      replace nf := nf.hold H
      replace df := df.hold H
      replace na := na.hold H
      replace da := da.hold H
      replace nP := nP.hold H
      replace dP := dP.hold H
      replace nr := nr.hold H
      replace dr := dr.hold H
      replace nR := nR.hold H
      replace dR := dR.hold H
      replace nT := nT.hold H
      replace dT := dT.hold H
      replace nt := nt.hold H
      replace dt := dt.hold H
      replace ns := ns.hold H
      replace ds := ds.hold H
      clear H
      have c1_0 := S.c 1 0 rfl rfl
      have c1_1 := S.c 1 1 rfl rfl
      have c1_2 := S.c 1 2 rfl rfl
      have c10_0 := S.c 10 0 rfl rfl
      have c10_1 := S.c 10 1 rfl rfl
      have c10_2 := S.c 10 2 rfl rfl
      have H := S.hnew 30 [.bool bU, .slice pU lU KU, .slice qU jU JU]
      replace S := S.alloc 30 [.bool bU, .slice pU lU KU, .slice qU jU JU] (w23.heap.size)
      try simp only [List.cons_append, List.nil_append] at S
      replace nA := nA.hold H
      replace dA := dA.hold H
      replace nB := nB.hold H
      replace dB := dB.hold H
      replace nC := nC.hold H
      replace dC := dC.hold H
      replace nE := nE.hold H
      replace dE := dE.hold H
      replace ne := ne.hold H
      replace de := de.hold H
      replace nF := nF.hold H
      replace dF := dF.hold H
      replace nG := nG.hold H
      replace dG := dG.hold H
      replace nf := nf.hold H
      replace df := df.hold H
      replace na := na.hold H
      replace da := da.hold H
      replace nP := nP.hold H
      replace dP := dP.hold H
      replace nr := nr.hold H
      replace dr := dr.hold H
      replace nR := nR.hold H
      replace dR := dR.hold H
      replace nT := nT.hold H
      replace dT := dT.hold H
      replace nt := nt.hold H
      replace dt := dt.hold H
      replace ns := ns.hold H
      replace ds := ds.hold H
      replace nU := nU.hold H
      replace dU := dU.hold H
      clear H
      clear c1_0 c1_1 c1_2 c10_0 c10_1 c10_2
      have c1_0 := S.c 1 0 rfl rfl
      have c1_1 := S.c 1 1 rfl rfl
      have c1_2 := S.c 1 2 rfl rfl
      go_wp2_with fail
      generalize (.tuple #[.agg #[.bool bU, .slice pU lU KU, .slice qU jU JU], .int .i64 0] : Value) = g13
      clear c1_0 c1_1 c1_2
      refine (S.call (rsign_any ⟨bB, pB, lB, KB, qB, jB, JB, rfl, hB, nB, dB⟩ (rb_max RBB.out (by decide)).1 HSG.out)).mono ?_
      clear S
      rintro e w24 ⟨rfl, S, H⟩
      replace nA := nA.hold H
      replace dA := dA.hold H
      replace nB := nB.hold H
      replace dB := dB.hold H
      replace nC := nC.hold H
      replace dC := dC.hold H
      replace nE := nE.hold H
      replace dE := dE.hold H
      replace ne := ne.hold H
      replace de := de.hold H
      replace nF := nF.hold H
      replace dF := dF.hold H
      replace nG := nG.hold H
      replace dG := dG.hold H
      replace nf := nf.hold H
      replace df := df.hold H
      replace na := na.hold H
      replace da := da.hold H
      replace nP := nP.hold H
      replace dP := dP.hold H
      replace nr := nr.hold H
      replace dr := dr.hold H
      replace nR := nR.hold H
      replace dR := dR.hold H
      replace nT := nT.hold H
      replace dT := dT.hold H
      replace nt := nt.hold H
      replace dt := dt.hold H
      replace ns := ns.hold H
      replace ds := ds.hold H
      replace nU := nU.hold H
      replace dU := dU.hold H
      clear H
      have c1_0 := S.c 1 0 rfl rfl
      have c1_1 := S.c 1 1 rfl rfl
      have c1_2 := S.c 1 2 rfl rfl
      clear c1_0 c1_1 c1_2
      have c0_0 := S.c 0 0 rfl rfl
      have c0_1 := S.c 0 1 rfl rfl
      have c0_2 := S.c 0 2 rfl rfl
      have c17_0 := S.c 17 0 rfl rfl
      have c17_1 := S.c 17 1 rfl rfl
      have c17_2 := S.c 17 2 rfl rfl
      go_wp2_with fail
      clear c0_0 c0_1 c0_2 c17_0 c17_1 c17_2
      refine (S.call (same_any ⟨bU, pU, lU, KU, qU, jU, JU, rfl, hU, nU, dU⟩ ⟨bA, pA, lA, KA, qA, jA, JA, rfl, hA, nA, dA⟩ (rb_max RA.out (by decide)) (rb_max RA.out (by decide)) (r := true) (by simp))).mono ?_
      clear S
      rintro e w25 ⟨rfl, S, H⟩
      replace nA := nA.hold H
      replace dA := dA.hold H
      replace nB := nB.hold H
      replace dB := dB.hold H
      replace nC := nC.hold H
      replace dC := dC.hold H
      replace nE := nE.hold H
      replace dE := dE.hold H
      replace ne := ne.hold H
      replace de := de.hold H
      replace nF := nF.hold H
      replace dF := dF.hold H
      replace nG := nG.hold H
      replace dG := dG.hold H
      replace nf := nf.hold H
      replace df := df.hold H
      replace na := na.hold H
      replace da := da.hold H
      replace nP := nP.hold H
      replace dP := dP.hold H
      replace nr := nr.hold H
      replace dr := dr.hold H
      replace nR := nR.hold H
      replace dR := dR.hold H
      replace nT := nT.hold H
      replace dT := dT.hold H
      replace nt := nt.hold H
      replace dt := dt.hold H
      replace ns := ns.hold H
      replace ds := ds.hold H
      replace nU := nU.hold H
      replace dU := dU.hold H
      clear H
      have c0_0 := S.c 0 0 rfl rfl
      have c0_1 := S.c 0 1 rfl rfl
      have c0_2 := S.c 0 2 rfl rfl
      have c17_0 := S.c 17 0 rfl rfl
      have c17_1 := S.c 17 1 rfl rfl
      have c17_2 := S.c 17 2 rfl rfl
      go_wp2_with fail
      exact bodyPost_ret (v := .bool true) (by simp [results, Try.f4, go_sem]) rfl (⟨rfl, S.below⟩)

end Go.Proofs.Ytggnjlbnfgjgdaa
