/-
  girdlelaw01.LimbsOrders, as a walk: whatever the two lists, it returns true.
-/
import Derived.Test.YtphhaaofkckobaaDoorLshifts
namespace Go.Proofs.YtphhaaofkckobaaDoor
open Go.RowKit

theorem cmpI_neg (a b : Int) : cmpI a b = - cmpI b a := by unfold cmpI; split <;> split <;> (try split) <;> omega
theorem cmpI_zero (a b : Int) : (cmpI a b = 0) ↔ a = b := by unfold cmpI; split <;> (try split) <;> omega
theorem cmpI_bounds (a b : Int) : -1 ≤ cmpI a b ∧ cmpI a b ≤ 1 := by unfold cmpI; split <;> (try split) <;> omega
theorem equal_nat2 {va vb : Value} {m n : Nat} {w : World} (ha : IsNat w va m) (hb : IsNat w vb n) (hm : m < maxN) {b : Bool} (h : sameB m n = b) :
    Calls Tryd.prog 22 #[va, vb] w fun e w' => e = .returned (.bool b) ∧ Below w.heap.size w w' := by
  obtain ⟨ds, ⟨p1, K1, rfl, at1⟩, c1, v1⟩ := ha
  obtain ⟨es, ⟨p2, K2, rfl, at2⟩, c2, v2⟩ := hb
  have hl : ds.length ≤ 512 := c1.len_max.2 (by omega)
  have h1 := equal_nat p1 p2 K1 K2 ds es w at1 at2 (by omega)
  have e : decide (ds = es) = b := by
    rw [← h]
    unfold sameB
    rw [Bool.eq_iff_iff, decide_eq_true_iff, decide_eq_true_iff]
    exact ⟨fun e => by rw [← v1, ← v2, e], fun e => Can.uniq (by decide) c1 c2 (by rw [v1, v2, e])⟩
  rw [e] at h1
  exact h1
theorem IsRef.nought {w : World} {v : Value} (h : IsRef w v 0) : ∃ p K, v = .slice p 0 K := by
  obtain ⟨ds, ⟨p, K, rfl, _⟩, hc, hv⟩ := h
  rw [hc.eq_nil (by decide) hv]
  exact ⟨p, K, rfl⟩
theorem IsRef.some {w : World} {v : Value} {n : Nat} (h : IsRef w v n) (h0 : n ≠ 0) : ∃ p l K, v = .slice p l K ∧ ((l : Int) == 0) = false ∧ ((l : Int) != 0) = true := by
  obtain ⟨ds, ⟨p, K, rfl, _⟩, hc, rfl⟩ := h
  have hl : (ds.length : Int) ≠ 0 := fun e => h0 (by rw [List.eq_nil_of_length_eq_zero (l := ds) (by omega)]; rfl)
  exact ⟨p, _, K, rfl, beq_eq_false_iff_ne.2 hl, bne_iff_ne.2 hl⟩
theorem tail_mod {m t : Nat} (h0 : m ≠ 0) (h : TailIs m t) : m % 2 ^ t = 0 ∧ m % 2 ^ (t + 1) ≠ 0 := by
  rcases h with ⟨h, _⟩ | ⟨a, rfl⟩
  · exact absurd h h0
  · refine ⟨by rw [Nat.mul_mod_right], ?_⟩
    rw [Nat.pow_succ, Nat.mul_mod_mul_left]
    have := Nat.two_pow_pos t
    have h2 : (2 * a + 1) % 2 = 1 := by omega
    rw [h2]
    omega
theorem tail_40 {m t : Nat} (h0 : m ≠ 0) (hm : m < N40) (h : TailIs m t) : t ≤ 1280 := by
  have hb := nbits_40 hm
  rcases h with ⟨h, _⟩ | ⟨a, rfl⟩
  · exact absurd h h0
  · obtain ⟨h1, h2, h3⟩ := nbits_spec h0
    have h4 := Nat.le_mul_of_pos_right (2 ^ t) (show 0 < 2 * a + 1 by omega)
    have := (Nat.pow_lt_pow_iff_right (a := 2) (by decide)).1 (Nat.lt_of_le_of_lt h4 h3)
    omega
theorem pow_lt_max {t : Nat} (h : t ≤ 1300) : 2 ^ t < maxN := by
  obtain ⟨q, hq⟩ : ∃ q : Nat, q = 32 * 512 := ⟨_, rfl⟩
  rw [maxN_two q 512 rfl hq]
  exact Nat.pow_lt_pow_right (by decide) (by omega)

set_option maxRecDepth 100000 in
set_option maxHeartbeats 4000000 in
theorem limbsOrders_any (p1 p2 : Option Addr) (K1 K2 : Nat) (ds1 ds2 : List Nat) (w : World) (hT : Tab w) (at1 : At .u32 w p1 K1 ds1) (at2 : At .u32 w p2 K2 ds2) (d1 : Dig 4294967296 ds1) (d2 : Dig 4294967296 ds2) :
    Calls Tryd.prog 7 #[.slice p1 ds1.length K1, .slice p2 ds2.length K2] w fun e w' => e = .returned (.bool true) ∧ Below w.heap.size w w' := by
  have R := Lib.hid (reckons_any w hT)
  have HT := Lib.hid hT
  have HD1 := Lib.hid d1
  have HD2 := Lib.hid d2
  obtain ⟨l1, hl1⟩ : ∃ l, ds1.length = l := ⟨_, rfl⟩
  obtain ⟨l2, hl2⟩ : ∃ l, ds2.length = l := ⟨_, rfl⟩
  have HL1 := Lib.hid hl1
  have HL2 := Lib.hid hl2
  rw [hl1, hl2]
  clear hT d1 d2 hl1 hl2
  go_enter Tryd.func7, Tryd.ntmps7
  have C := Lib.hid (R.out)
  go_wp2_with fail
  refine C.out.mono ?_
  clear C
  rintro e w1 ⟨rfl, hB⟩
  replace at1 := at1.below hB (Nat.le_refl _)
  replace at2 := at2.below hB (Nat.le_refl _)
  have hb1 := hB
  clear hB
  have C := Lib.hid (fit_two p1 p2 K1 K2 ds1 ds2 w1 at1 at2 l1 l2 HL1.out HL2.out)
  go_wp2_with fail
  refine C.out.mono ?_
  clear C
  rintro e w2 ⟨⟨b, rfl, hb⟩, hB⟩
  replace at1 := at1.below hB (Nat.le_refl _)
  replace at2 := at2.below hB (Nat.le_refl _)
  have hb2 := hb1.trans (hB.mono hb1.size)
  clear hB hb1
  cases b with
  | false =>
    go_wp2
    go_ret
    exact ⟨rfl, hb2⟩
  | true =>
    obtain ⟨t1, t2⟩ := hb.out rfl
    clear hb
    have N1 : IsNat w2 (.slice p1 l1 K1) (val 4294967296 ds1) := by rw [← HL1.out]; exact ⟨ds1, ⟨p1, K1, rfl, at1⟩, tried_can t1 HD1.out, rfl⟩
    have N2 : IsNat w2 (.slice p2 l2 K2) (val 4294967296 ds2) := by rw [← HL2.out]; exact ⟨ds2, ⟨p2, K2, rfl, at2⟩, tried_can t2 HD2.out, rfl⟩
    have M1 := t1.lt HD1.out
    have M2 := t2.lt HD2.out
    have T1 := Lib.hid t1
    have T2 := Lib.hid t2
    obtain ⟨n1, hn1⟩ : ∃ n, val 4294967296 ds1 = n := ⟨_, rfl⟩
    obtain ⟨n2, hn2⟩ : ∃ n, val 4294967296 ds2 = n := ⟨_, rfl⟩
    rw [hn1] at N1 M1
    rw [hn2] at N2 M2
    have V1 := Lib.hid hn1
    have V2 := Lib.hid hn2
    have HM1 := Lib.hid M1
    have HM2 := Lib.hid M2
    have HN1 := Lib.hid (n40_lt M1)
    have HN2 := Lib.hid (n40_lt M2)
    clear M1 M2 t1 t2 hn1 hn2
    clear at1 at2
    have HC0 := Lib.hid (cmpI_neg (n1 : Int) (n2 : Int))
    have HC1 := Lib.hid (cmpI_zero (n1 : Int) (n2 : Int))
    have HC2 := Lib.hid (cmpI_bounds (n2 : Int) (n1 : Int))
    obtain ⟨c, hc⟩ : ∃ c, cmpI (n1 : Int) (n2 : Int) = c := ⟨_, rfl⟩
    obtain ⟨d, hd⟩ : ∃ d, cmpI (n2 : Int) (n1 : Int) = d := ⟨_, rfl⟩
    obtain ⟨b, hb⟩ : ∃ b, sameB n1 n2 = b := ⟨_, rfl⟩
    have HC := Lib.hid hc; have HD := Lib.hid hd; have HBB := Lib.hid hb
    rw [hc, hd] at HC0
    rw [hc] at HC1
    rw [hd] at HC2
    have hd1 := HC2.out.1
    have hd2 := HC2.out.2
    have hcd : c = -d := HC0.out
    have HE : Hid ((c == 0) = b) := by
      show _ = _
      rw [← hb]
      unfold sameB
      rw [Bool.eq_iff_iff, beq_iff_eq, decide_eq_true_iff]
      exact HC1.out.trans (by omega)
    clear hc hd hb
    subst hcd
    have C := Lib.hid (refOf_any N1 HN1.out)
    go_wp2_with fail
    refine C.out.mono ?_
    clear C
    rintro e w3 ⟨⟨vx, rfl, X1⟩, hB⟩
    replace N1 := N1.below hB (Nat.le_refl _)
    replace N2 := N2.below hB (Nat.le_refl _)
    have hb3 := hb2.trans (hB.mono hb2.size)
    clear hB hb2
    have C := Lib.hid (refOf_any N2 HN2.out)
    go_wp2_with fail
    refine C.out.mono ?_
    clear C
    rintro e w4 ⟨⟨vy, rfl, X2⟩, hB⟩
    replace N1 := N1.below hB (Nat.le_refl _)
    replace N2 := N2.below hB (Nat.le_refl _)
    replace X1 := X1.below hB (Nat.le_refl _)
    have hb4 := hb3.trans (hB.mono hb3.size)
    clear hB hb3
    have C := Lib.hid (compare_nat N1 N2 HN1.out HN2.out HC.out)
    go_wp2_with fail
    refine C.out.mono ?_
    clear C
    rintro e w5 ⟨rfl, hB⟩
    replace N1 := N1.below hB (Nat.le_refl _)
    replace N2 := N2.below hB (Nat.le_refl _)
    replace X1 := X1.below hB (Nat.le_refl _)
    replace X2 := X2.below hB (Nat.le_refl _)
    have hb5 := hb4.trans (hB.mono hb4.size)
    clear hB hb4
    have C := Lib.hid (refCmp_b X1 X2 HN1.out HN2.out HC.out)
    go_wp2_with fail
    refine C.out.mono ?_
    clear C
    rintro e w6 ⟨rfl, hB⟩
    replace N1 := N1.below hB (Nat.le_refl _)
    replace N2 := N2.below hB (Nat.le_refl _)
    replace X1 := X1.below hB (Nat.le_refl _)
    replace X2 := X2.below hB (Nat.le_refl _)
    have hb6 := hb5.trans (hB.mono hb5.size)
    clear hB hb5
    have C := Lib.hid (compare_nat N2 N1 HN2.out HN1.out HD.out)
    go_wp2_with fail
    refine C.out.mono ?_
    clear C
    rintro e w7 ⟨rfl, hB⟩
    replace N1 := N1.below hB (Nat.le_refl _)
    replace N2 := N2.below hB (Nat.le_refl _)
    replace X1 := X1.below hB (Nat.le_refl _)
    replace X2 := X2.below hB (Nat.le_refl _)
    have hb7 := hb6.trans (hB.mono hb6.size)
    clear hB hb6
    have C := Lib.hid (equal_nat2 N1 N2 HN1.out HBB.out)
    go_wp2_with fail
    refine C.out.mono ?_
    clear C
    rintro e w8 ⟨rfl, hB⟩
    replace N1 := N1.below hB (Nat.le_refl _)
    replace N2 := N2.below hB (Nat.le_refl _)
    replace X1 := X1.below hB (Nat.le_refl _)
    replace X2 := X2.below hB (Nat.le_refl _)
    have hb8 := hb7.trans (hB.mono hb7.size)
    clear hB hb7
    clear X2
    have he := HE.out
    obtain ⟨t, ht⟩ : ∃ t, nbits n1 = t := ⟨_, rfl⟩
    have HT1 := Lib.hid ht
    have hb1280 := nbits_40 HM1.out
    rw [ht] at hb1280
    clear ht
    by_cases h0 : n1 = 0
    · subst h0
      have hl0 : l1 = 0 := by
        have h1 := (tried_can T1.out HD1.out).eq_nil (by decide) V1.out
        have := HL1.out
        rw [h1] at this
        simpa using this.symm
      have ht0 : t = 0 := by rw [← HT1.out]; rfl
      subst hl0
      subst ht0
      have C := Lib.hid (bits_nat N1 HN1.out HT1.out)
      go_wp2_with fail
      refine C.out.mono ?_
      clear C
      rintro e w9 ⟨rfl, hB⟩
      replace N1 := N1.below hB (Nat.le_refl _)
      replace N2 := N2.below hB (Nat.le_refl _)
      replace X1 := X1.below hB (Nat.le_refl _)
      have hb9 := hb8.trans (hB.mono hb8.size)
      clear hB hb8
      have C := Lib.hid (tail_nat N1 HN1.out (HT.out.below hb9))
      go_wp2_with fail
      refine C.out.mono ?_
      clear C
      rintro e w10 ⟨⟨s, rfl, hq1, hq2⟩, hB⟩
      replace N1 := N1.below hB (Nat.le_refl _)
      replace N2 := N2.below hB (Nat.le_refl _)
      replace X1 := X1.below hB (Nat.le_refl _)
      have hb10 := hb9.trans (hB.mono hb9.size)
      clear hB hb9
      have hs : s = 0 := by
        rcases hq2.out with ⟨_, h⟩ | ⟨a, h⟩
        · exact h
        · exfalso
          have := Nat.two_pow_pos s
          have h3 := Nat.mul_pos this (show 0 < 2 * a + 1 by omega)
          omega
      subst hs
      clear hq1 hq2
      go_wp2
      go_ret
      exact ⟨rfl, hb10⟩
    · have hl0 : ((l1 : Int) == 0) = false := by
        refine beq_eq_false_iff_ne.2 (fun e => h0 ?_)
        have h1 : ds1.length = 0 := by have := HL1.out; omega
        rw [← V1.out, List.eq_nil_of_length_eq_zero h1]
        rfl
      have H0 := Lib.hid h0
      have htp : 1 ≤ t := by rw [← HT1.out]; exact (nbits_spec h0).1
      have HX := Lib.hid (nbits_spec h0)
      rw [HT1.out] at HX
      obtain ⟨u, rfl⟩ : ∃ u, t = u + 1 := ⟨t - 1, by omega⟩
      rw [Nat.add_sub_cancel] at HX
      clear h0 htp
      have C := Lib.hid (bits_nat N1 HN1.out HT1.out)
      go_wp2_with fail
      refine C.out.mono ?_
      clear C
      rintro e w9 ⟨rfl, hB⟩
      replace N1 := N1.below hB (Nat.le_refl _)
      replace N2 := N2.below hB (Nat.le_refl _)
      replace X1 := X1.below hB (Nat.le_refl _)
      have hb9 := hb8.trans (hB.mono hb8.size)
      clear hB hb8
      have C := Lib.hid (tail_nat N1 HN1.out (HT.out.below hb9))
      go_wp2_with fail
      refine C.out.mono ?_
      clear C
      rintro e w10 ⟨⟨s, rfl, hq1, hq2⟩, hB⟩
      replace N1 := N1.below hB (Nat.le_refl _)
      replace N2 := N2.below hB (Nat.le_refl _)
      replace X1 := X1.below hB (Nat.le_refl _)
      have hb10 := hb9.trans (hB.mono hb9.size)
      clear hB hb9
      have HS := Lib.hid (tail_mod H0.out hq2.out)
      have hs40 := tail_40 H0.out HM1.out hq2.out
      clear hq1 hq2
      have C := Lib.hid (refPow_any s w10 (by omega))
      go_wp2_with fail
      refine C.out.mono ?_
      clear C
      rintro e w11 ⟨⟨vp, rfl, P1⟩, hB⟩
      replace N1 := N1.below hB (Nat.le_refl _)
      replace N2 := N2.below hB (Nat.le_refl _)
      replace X1 := X1.below hB (Nat.le_refl _)
      have hb11 := hb10.trans (hB.mono hb10.size)
      clear hB hb10
      have C := Lib.hid (refDiv_any X1 P1 HN1.out (pow_lt_max (by omega)) (Nat.two_pow_pos s))
      go_wp2_with fail
      refine C.out.mono ?_
      clear C
      rintro e w12 ⟨⟨vq, vr, rfl, Q1, R1⟩, hB⟩
      replace N1 := N1.below hB (Nat.le_refl _)
      replace N2 := N2.below hB (Nat.le_refl _)
      replace X1 := X1.below hB (Nat.le_refl _)
      replace P1 := P1.below hB (Nat.le_refl _)
      have hb12 := hb11.trans (hB.mono hb11.size)
      clear hB hb11
      have C := Lib.hid (refPow_any (s + 1) w12 (by omega))
      go_wp2_with fail
      refine C.out.mono ?_
      clear C
      rintro e w13 ⟨⟨vp2, rfl, P2⟩, hB⟩
      replace N1 := N1.below hB (Nat.le_refl _)
      replace N2 := N2.below hB (Nat.le_refl _)
      replace X1 := X1.below hB (Nat.le_refl _)
      replace P1 := P1.below hB (Nat.le_refl _)
      replace R1 := R1.below hB (Nat.le_refl _)
      have hb13 := hb12.trans (hB.mono hb12.size)
      clear hB hb12
      have C := Lib.hid (refDiv_any X1 P2 HN1.out (pow_lt_max (by omega)) (Nat.two_pow_pos (s + 1)))
      go_wp2_with fail
      refine C.out.mono ?_
      clear C
      rintro e w14 ⟨⟨vq2, vr2, rfl, Q2, R2⟩, hB⟩
      replace N1 := N1.below hB (Nat.le_refl _)
      replace N2 := N2.below hB (Nat.le_refl _)
      replace X1 := X1.below hB (Nat.le_refl _)
      replace P1 := P1.below hB (Nat.le_refl _)
      replace R1 := R1.below hB (Nat.le_refl _)
      replace P2 := P2.below hB (Nat.le_refl _)
      have hb14 := hb13.trans (hB.mono hb13.size)
      clear hB hb13
      have C := Lib.hid (refPow_any (u + 1) w14 (by omega))
      go_wp2_with fail
      refine C.out.mono ?_
      clear C
      rintro e w15 ⟨⟨vp3, rfl, P3⟩, hB⟩
      replace N1 := N1.below hB (Nat.le_refl _)
      replace N2 := N2.below hB (Nat.le_refl _)
      replace X1 := X1.below hB (Nat.le_refl _)
      replace P1 := P1.below hB (Nat.le_refl _)
      replace R1 := R1.below hB (Nat.le_refl _)
      replace P2 := P2.below hB (Nat.le_refl _)
      replace R2 := R2.below hB (Nat.le_refl _)
      have hb15 := hb14.trans (hB.mono hb14.size)
      clear hB hb14
      have hc3 := Lib.hid (cmpI_lt (a := (n1 : Int)) (b := ((2 ^ (u + 1) : Nat) : Int)) (by have := HX.out.2.2; omega))
      have C := Lib.hid (refCmp_b X1 P3 HN1.out (pow_lt_max (by omega)) hc3.out)
      go_wp2_with fail
      refine C.out.mono ?_
      clear C
      rintro e w16 ⟨rfl, hB⟩
      replace N1 := N1.below hB (Nat.le_refl _)
      replace N2 := N2.below hB (Nat.le_refl _)
      replace X1 := X1.below hB (Nat.le_refl _)
      replace P1 := P1.below hB (Nat.le_refl _)
      replace R1 := R1.below hB (Nat.le_refl _)
      replace P2 := P2.below hB (Nat.le_refl _)
      replace R2 := R2.below hB (Nat.le_refl _)
      replace P3 := P3.below hB (Nat.le_refl _)
      have hb16 := hb15.trans (hB.mono hb15.size)
      clear hB hb15
      have C := Lib.hid (refPow_any u w16 (by omega))
      go_wp2_with fail
      refine C.out.mono ?_
      clear C
      rintro e w17 ⟨⟨vp4, rfl, P4⟩, hB⟩
      replace N1 := N1.below hB (Nat.le_refl _)
      replace N2 := N2.below hB (Nat.le_refl _)
      replace X1 := X1.below hB (Nat.le_refl _)
      replace P1 := P1.below hB (Nat.le_refl _)
      replace R1 := R1.below hB (Nat.le_refl _)
      replace P2 := P2.below hB (Nat.le_refl _)
      replace R2 := R2.below hB (Nat.le_refl _)
      replace P3 := P3.below hB (Nat.le_refl _)
      have hb17 := hb16.trans (hB.mono hb16.size)
      clear hB hb16
      obtain ⟨g, hg⟩ : ∃ g, cmpI (n1 : Int) ((2 ^ u : Nat) : Int) = g := ⟨_, rfl⟩
      have hg0 : 0 ≤ g := by rw [← hg]; exact cmpI_ge (by have := HX.out.2.1; omega)
      have HG := Lib.hid hg
      clear hg
      have C := Lib.hid (refCmp_b X1 P4 HN1.out (pow_lt_max (by omega)) HG.out)
      go_wp2_with fail
      refine C.out.mono ?_
      clear C
      rintro e w18 ⟨rfl, hB⟩
      replace N1 := N1.below hB (Nat.le_refl _)
      replace N2 := N2.below hB (Nat.le_refl _)
      replace X1 := X1.below hB (Nat.le_refl _)
      replace P1 := P1.below hB (Nat.le_refl _)
      replace R1 := R1.below hB (Nat.le_refl _)
      replace P2 := P2.below hB (Nat.le_refl _)
      replace R2 := R2.below hB (Nat.le_refl _)
      replace P3 := P3.below hB (Nat.le_refl _)
      replace P4 := P4.below hB (Nat.le_refl _)
      have hb18 := hb17.trans (hB.mono hb17.size)
      clear hB hb17
      obtain ⟨pr, Kr, rfl⟩ := (R1.eq HS.out.1).nought
      obtain ⟨pr2, lr2, Kr2, rfl, hlr, hlr2⟩ := R2.some HS.out.2
      go_wp2
      go_ret
      exact ⟨rfl, hb18⟩

end Go.Proofs.YtphhaaofkckobaaDoor
