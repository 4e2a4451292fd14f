/-
  girdlelaw01.LimbsDivs, as a walk: whatever the two lists, it returns true.
-/
import Derived.Test.YtphhaaofkckobaaDoorLmuls
import Derived.Test.YtphhaaofkckobaaDoorLong
namespace Go.Proofs.YtphhaaofkckobaaDoor
open Go.RowKit

theorem compare_nat {va vb : Value} {m n : Nat} {w : World} (ha : IsNat w va m) (hb : IsNat w vb n) (hm : m < maxN) (hn : n < maxN) {c : Int} (hc : cmpI m n = c) :
    Calls Tryd.prog 25 #[va, vb] w fun e w' => e = .returned (.int .i64 c) ∧ Below w.heap.size w w' := by
  obtain ⟨ds, hv1, hc1, rfl⟩ := ha
  obtain ⟨es, hv2, hc2, rfl⟩ := hb
  subst hc
  exact compare_any hv1 hv2 hc1 hc2 (hc1.len_max.2 hm) (hc2.len_max.2 hn)
theorem div_nat {va vb : Value} {m n : Nat} {w : World} (ha : IsNat w va m) (hb : IsNat w vb n) (hm : m < maxN) (hn : n < maxN) (h0 : 0 < n) :
    Calls Tryd.prog 23 #[va, vb] w fun e w' => (∃ v1 v2, e = .returned (.tuple #[v1, v2, .int .i64 0]) ∧ IsNat w' v1 (m / n) ∧ IsNat w' v2 (m % n)) ∧ Below w.heap.size w w' :=
  div_fit (long_any n) ha hb hm hn h0

set_option maxRecDepth 100000 in
set_option maxHeartbeats 4000000 in
theorem limbsDivs_any (p1 p2 : Option Addr) (K1 K2 : Nat) (ds1 ds2 : List Nat) (w : World) (hT : Tab w) (at1 : At .u32 w p1 K1 ds1) (at2 : At .u32 w p2 K2 ds2) (d1 : Dig 4294967296 ds1) (d2 : Dig 4294967296 ds2) :
    Calls Tryd.prog 5 #[.slice p1 ds1.length K1, .slice p2 ds2.length K2] w fun e w' => e = .returned (.bool true) ∧ Below w.heap.size w w' := by
  have R := Lib.hid (reckons_any w hT)
  have HT := Lib.hid hT
  have HD1 := Lib.hid d1
  have HD2 := Lib.hid d2
  obtain ⟨l1, hl1⟩ : ∃ l, ds1.length = l := ⟨_, rfl⟩
  obtain ⟨l2, hl2⟩ : ∃ l, ds2.length = l := ⟨_, rfl⟩
  have HL1 := Lib.hid hl1
  have HL2 := Lib.hid hl2
  rw [hl1, hl2]
  clear hT d1 d2 hl1 hl2
  go_enter Tryd.func5, Tryd.ntmps5
  have C := Lib.hid (R.out)
  go_wp2_with fail
  refine C.out.mono ?_
  clear C
  rintro e w1 ⟨rfl, hB⟩
  replace at1 := at1.below hB (Nat.le_refl _)
  replace at2 := at2.below hB (Nat.le_refl _)
  have hb1 := hB
  clear hB
  have C := Lib.hid (fit_two p1 p2 K1 K2 ds1 ds2 w1 at1 at2 l1 l2 HL1.out HL2.out)
  go_wp2_with fail
  refine C.out.mono ?_
  clear C
  rintro e w2 ⟨⟨b, rfl, hb⟩, hB⟩
  replace at1 := at1.below hB (Nat.le_refl _)
  replace at2 := at2.below hB (Nat.le_refl _)
  have hb2 := hb1.trans (hB.mono hb1.size)
  clear hB hb1
  cases b with
  | false =>
    go_wp2
    go_ret
    exact ⟨rfl, hb2⟩
  | true =>
    obtain ⟨t1, t2⟩ := hb.out rfl
    clear hb
    have N1 : IsNat w2 (.slice p1 l1 K1) (val 4294967296 ds1) := by rw [← HL1.out]; exact ⟨ds1, ⟨p1, K1, rfl, at1⟩, tried_can t1 HD1.out, rfl⟩
    have N2 : IsNat w2 (.slice p2 l2 K2) (val 4294967296 ds2) := by rw [← HL2.out]; exact ⟨ds2, ⟨p2, K2, rfl, at2⟩, tried_can t2 HD2.out, rfl⟩
    have M1 := t1.lt HD1.out
    have M2 := t2.lt HD2.out
    have T1 := Lib.hid t1
    have T2 := Lib.hid t2
    obtain ⟨n1, hn1⟩ : ∃ n, val 4294967296 ds1 = n := ⟨_, rfl⟩
    obtain ⟨n2, hn2⟩ : ∃ n, val 4294967296 ds2 = n := ⟨_, rfl⟩
    rw [hn1] at N1 M1
    rw [hn2] at N2 M2
    have V1 := Lib.hid hn1
    have V2 := Lib.hid hn2
    have HM1 := Lib.hid M1
    have HM2 := Lib.hid M2
    have HN1 := Lib.hid (n40_lt M1)
    have HN2 := Lib.hid (n40_lt M2)
    clear M1 M2 t1 t2 hn1 hn2
    clear at1 at2
    by_cases h0 : n2 = 0
    · subst h0
      have hl0 : l2 = 0 := by
        have h1 := (tried_can T2.out HD2.out).eq_nil (by decide) V2.out
        have := HL2.out
        rw [h1] at this
        simpa using this.symm
      subst hl0
      have C := Lib.hid (div_nil N1 N2 HN1.out)
      go_wp2_with fail
      refine C.out.mono ?_
      clear C
      rintro e w3 ⟨rfl, hB⟩
      replace N1 := N1.below hB (Nat.le_refl _)
      replace N2 := N2.below hB (Nat.le_refl _)
      have hb3 := hb2.trans (hB.mono hb2.size)
      clear hB hb2
      go_wp2
      go_ret
      exact ⟨rfl, hb3⟩
    · have hp : 0 < n2 := by omega
      have hl0 : ((l2 : Int) == 0) = false := by
        refine beq_eq_false_iff_ne.2 (fun e => h0 ?_)
        have h1 : ds2.length = 0 := by have := HL2.out; omega
        rw [← V2.out, List.eq_nil_of_length_eq_zero h1]
        rfl
      have HP := Lib.hid hp
      clear h0 hp
      have hq1 : n1 / n2 ≤ n1 := Nat.div_le_self _ _
      have hq2 : n1 % n2 < n2 := Nat.mod_lt _ HP.out
      have hq3 : n1 / n2 * n2 + n1 % n2 = n1 := by rw [Nat.mul_comm]; exact Nat.div_add_mod _ _
      have hq4 : n1 / n2 * n2 ≤ n1 := by omega
      have H3 := Lib.hid hq3; have H1 := Lib.hid hq1; have H2 := Lib.hid hq2; have H4 := Lib.hid hq4
      clear hq1 hq2 hq3 hq4
      have C := Lib.hid (div_nat N1 N2 HN1.out HN2.out HP.out)
      go_wp2_with fail
      refine C.out.mono ?_
      clear C
      rintro e w3 ⟨⟨vq, vr, rfl, NQ, NR⟩, hB⟩
      replace N1 := N1.below hB (Nat.le_refl _)
      replace N2 := N2.below hB (Nat.le_refl _)
      have hb3 := hb2.trans (hB.mono hb2.size)
      clear hB hb2
      have C := Lib.hid (refOf_any N1 HN1.out)
      go_wp2_with fail
      refine C.out.mono ?_
      clear C
      rintro e w4 ⟨⟨vx, rfl, X1⟩, hB⟩
      replace N1 := N1.below hB (Nat.le_refl _)
      replace N2 := N2.below hB (Nat.le_refl _)
      replace NQ := NQ.below hB (Nat.le_refl _)
      replace NR := NR.below hB (Nat.le_refl _)
      have hb4 := hb3.trans (hB.mono hb3.size)
      clear hB hb3
      have C := Lib.hid (refOf_any N2 HN2.out)
      go_wp2_with fail
      refine C.out.mono ?_
      clear C
      rintro e w5 ⟨⟨vy, rfl, X2⟩, hB⟩
      replace N1 := N1.below hB (Nat.le_refl _)
      replace N2 := N2.below hB (Nat.le_refl _)
      replace NQ := NQ.below hB (Nat.le_refl _)
      replace NR := NR.below hB (Nat.le_refl _)
      replace X1 := X1.below hB (Nat.le_refl _)
      have hb5 := hb4.trans (hB.mono hb4.size)
      clear hB hb4
      have C := Lib.hid (refDiv_any X1 X2 HN1.out HN2.out HP.out)
      go_wp2_with fail
      refine C.out.mono ?_
      clear C
      rintro e w6 ⟨⟨v5, v6, rfl, XQ, XR⟩, hB⟩
      replace N1 := N1.below hB (Nat.le_refl _)
      replace N2 := N2.below hB (Nat.le_refl _)
      replace NQ := NQ.below hB (Nat.le_refl _)
      replace NR := NR.below hB (Nat.le_refl _)
      replace X1 := X1.below hB (Nat.le_refl _)
      replace X2 := X2.below hB (Nat.le_refl _)
      have hb6 := hb5.trans (hB.mono hb5.size)
      clear hB hb5
      obtain ⟨q, hq⟩ : ∃ q, n1 / n2 = q := ⟨_, rfl⟩
      obtain ⟨r, hr⟩ : ∃ r, n1 % n2 = r := ⟨_, rfl⟩
      rw [hq] at NQ XQ H1 H3 H4
      rw [hr] at NR XR H2 H3
      clear hq hr
      have C := Lib.hid (is_same NQ XQ (Nat.lt_of_le_of_lt H1.out HN1.out))
      go_wp2_with fail
      refine C.out.mono ?_
      clear C
      rintro e w7 ⟨rfl, hB⟩
      replace N1 := N1.below hB (Nat.le_refl _)
      replace N2 := N2.below hB (Nat.le_refl _)
      replace NQ := NQ.below hB (Nat.le_refl _)
      replace NR := NR.below hB (Nat.le_refl _)
      replace X1 := X1.below hB (Nat.le_refl _)
      replace X2 := X2.below hB (Nat.le_refl _)
      replace XQ := XQ.below hB (Nat.le_refl _)
      replace XR := XR.below hB (Nat.le_refl _)
      have hb7 := hb6.trans (hB.mono hb6.size)
      clear hB hb6
      have C := Lib.hid (is_same NR XR (Nat.lt_trans H2.out HN2.out))
      go_wp2_with fail
      refine C.out.mono ?_
      clear C
      rintro e w8 ⟨rfl, hB⟩
      replace N1 := N1.below hB (Nat.le_refl _)
      replace N2 := N2.below hB (Nat.le_refl _)
      replace NQ := NQ.below hB (Nat.le_refl _)
      replace NR := NR.below hB (Nat.le_refl _)
      replace X1 := X1.below hB (Nat.le_refl _)
      replace X2 := X2.below hB (Nat.le_refl _)
      replace XQ := XQ.below hB (Nat.le_refl _)
      replace XR := XR.below hB (Nat.le_refl _)
      have hb8 := hb7.trans (hB.mono hb7.size)
      clear hB hb7
      have HC := Lib.hid (cmpI_lt (a := (r : Int)) (b := (n2 : Int)) (by have := H2.out; omega))
      have C := Lib.hid (compare_nat NR N2 (Nat.lt_trans H2.out HN2.out) HN2.out HC.out)
      go_wp2_with fail
      refine C.out.mono ?_
      clear C
      rintro e w9 ⟨rfl, hB⟩
      replace N1 := N1.below hB (Nat.le_refl _)
      replace N2 := N2.below hB (Nat.le_refl _)
      replace NQ := NQ.below hB (Nat.le_refl _)
      replace NR := NR.below hB (Nat.le_refl _)
      replace X1 := X1.below hB (Nat.le_refl _)
      replace X2 := X2.below hB (Nat.le_refl _)
      replace XQ := XQ.below hB (Nat.le_refl _)
      replace XR := XR.below hB (Nat.le_refl _)
      have hb9 := hb8.trans (hB.mono hb8.size)
      clear hB hb8
      have C := Lib.hid (mul_fit NQ N2 (Nat.lt_of_le_of_lt H1.out HN1.out) HN2.out (Nat.lt_of_le_of_lt H4.out HN1.out))
      go_wp2_with fail
      refine C.out.mono ?_
      clear C
      rintro e w10 ⟨⟨vp, rfl, NP⟩, hB⟩
      replace N1 := N1.below hB (Nat.le_refl _)
      replace N2 := N2.below hB (Nat.le_refl _)
      replace NQ := NQ.below hB (Nat.le_refl _)
      replace NR := NR.below hB (Nat.le_refl _)
      replace X1 := X1.below hB (Nat.le_refl _)
      replace X2 := X2.below hB (Nat.le_refl _)
      replace XQ := XQ.below hB (Nat.le_refl _)
      replace XR := XR.below hB (Nat.le_refl _)
      have hb10 := hb9.trans (hB.mono hb9.size)
      clear hB hb9
      have C := Lib.hid (add_fit NP NR (by rw [H3.out]; exact HN1.out))
      go_wp2_with fail
      refine C.out.mono ?_
      clear C
      rintro e w11 ⟨⟨vs, rfl, NS⟩, hB⟩
      replace N1 := N1.below hB (Nat.le_refl _)
      replace N2 := N2.below hB (Nat.le_refl _)
      replace NQ := NQ.below hB (Nat.le_refl _)
      replace NR := NR.below hB (Nat.le_refl _)
      replace X1 := X1.below hB (Nat.le_refl _)
      replace X2 := X2.below hB (Nat.le_refl _)
      replace XQ := XQ.below hB (Nat.le_refl _)
      replace XR := XR.below hB (Nat.le_refl _)
      replace NP := NP.below hB (Nat.le_refl _)
      have hb11 := hb10.trans (hB.mono hb10.size)
      clear hB hb10
      have C := Lib.hid (equal_same (NS.eq H3.out) N1 HN1.out)
      go_wp2_with fail
      refine C.out.mono ?_
      clear C
      rintro e w12 ⟨rfl, hB⟩
      replace N1 := N1.below hB (Nat.le_refl _)
      replace N2 := N2.below hB (Nat.le_refl _)
      replace NQ := NQ.below hB (Nat.le_refl _)
      replace NR := NR.below hB (Nat.le_refl _)
      replace X1 := X1.below hB (Nat.le_refl _)
      replace X2 := X2.below hB (Nat.le_refl _)
      replace XQ := XQ.below hB (Nat.le_refl _)
      replace XR := XR.below hB (Nat.le_refl _)
      replace NP := NP.below hB (Nat.le_refl _)
      replace NS := NS.below hB (Nat.le_refl _)
      have hb12 := hb11.trans (hB.mono hb11.size)
      clear hB hb11
      go_wp2
      go_ret
      exact ⟨rfl, hb12⟩

end Go.Proofs.YtphhaaofkckobaaDoor
