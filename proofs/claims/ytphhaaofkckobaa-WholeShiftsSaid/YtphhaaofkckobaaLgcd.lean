/-
  girdlelaw02.DigitsGcd, as a walk: whatever the three lists, it returns true.
-/
import Derived.Test.YtphhaaofkckobaaLplaces
namespace Go.Proofs.Ytphhaaofkckobaa
open Go.RowKit

/-- May a list be tried? -/
def Fit10 (ds : List Nat) : Prop := ds.length ≤ 10 ∧ cut ds = ds
instance (ds : List Nat) : Decidable (Fit10 ds) := inferInstanceAs (Decidable (_ ∧ _))

theorem gcd_parts {x y : Nat} (h : 0 < Nat.gcd x y) : Nat.gcd (x / Nat.gcd x y) (y / Nat.gcd x y) = 1 := Nat.coprime_div_gcd_div_gcd h
theorem list_ten {ds : List Nat} (h : Fit10 ds) (hd : Dig 4294967296 ds) (a : Nat) (ha : a = 10) : val 4294967296 ds < 4294967296 ^ a := by
  have h1 := val_lt hd
  have h2 := Nat.pow_le_pow_right (n := 4294967296) (by decide) (show ds.length ≤ a by have := h.1; omega)
  omega
theorem mul_ten {m n a : Nat} (hm : m < 4294967296 ^ a) (hn : n < 4294967296 ^ a) (ha : a = 10) : m * n < maxN := by
  have h := Nat.mul_lt_mul'' hm hn
  rw [← Nat.pow_add] at h
  have h2 := Nat.pow_le_pow_right (n := 4294967296) (by decide) (show a + a ≤ 512 by omega)
  unfold maxN
  omega
theorem one_ten {m a : Nat} (hm : m < 4294967296 ^ a) (ha : a = 10) : m < maxN := by
  have h2 := Nat.pow_le_pow_right (n := 4294967296) (by decide) (show a ≤ 512 by omega)
  unfold maxN
  omega

theorem IsNat.slice {w : World} {v : Value} {n : Nat} (h : IsNat w v n) : ∃ p l K, v = .slice p l K ∧ (n = 0 → l = 0) ∧ (n ≠ 0 → ((l : Int) == 0) = false ∧ ((l : Int) != 0) = true) := by
  obtain ⟨ds, ⟨p, K, rfl, _⟩, hc, rfl⟩ := h
  refine ⟨p, _, K, rfl, fun h => by rw [hc.eq_nil (by decide) h]; rfl, fun h => ?_⟩
  have hl : (ds.length : Int) ≠ 0 := fun e => h (by rw [List.eq_nil_of_length_eq_zero (l := ds) (by omega)]; rfl)
  exact ⟨beq_eq_false_iff_ne.2 hl, bne_iff_ne.2 hl⟩

set_option maxRecDepth 100000 in
set_option maxHeartbeats 8000000 in
theorem digitsGcd_any (p1 p2 p3 : Option Addr) (K1 K2 K3 : Nat) (ds1 ds2 ds3 : List Nat) (w : World) (at1 : At .u32 w p1 K1 ds1) (at2 : At .u32 w p2 K2 ds2) (at3 : At .u32 w p3 K3 ds3) (d1 : Dig 4294967296 ds1) (d2 : Dig 4294967296 ds2) (d3 : Dig 4294967296 ds3) :
    Calls Try.prog 6 #[.slice p1 ds1.length K1, .slice p2 ds2.length K2, .slice p3 ds3.length K3] w fun e w' => e = .returned (.bool true) ∧ Below w.heap.size w w' := by
  have WR := Lib.hid (writes_any w)
  have HD := Lib.hid (And.intro d1 (And.intro d2 d3))
  obtain ⟨l1, hl1⟩ : ∃ l, ds1.length = l := ⟨_, rfl⟩
  obtain ⟨l2, hl2⟩ : ∃ l, ds2.length = l := ⟨_, rfl⟩
  obtain ⟨l3, hl3⟩ : ∃ l, ds3.length = l := ⟨_, rfl⟩
  have HL := Lib.hid (And.intro hl1 (And.intro hl2 hl3))
  rw [hl1, hl2, hl3]
  clear d1 d2 d3 hl1 hl2 hl3
  go_enter Try.func6, Try.ntmps6
  have C := Lib.hid (WR.out)
  go_wp2_with fail
  refine C.out.mono ?_
  clear C
  rintro e w1 ⟨rfl, hB⟩
  replace at1 := at1.below hB (Nat.le_refl _)
  replace at2 := at2.below hB (Nat.le_refl _)
  replace at3 := at3.below hB (Nat.le_refl _)
  have hb1 := hB
  clear hB
  have hg1 : w1.heap.size < (w1.alloc (.cells #[.slice p1 l1 K1, .slice p2 l2 K2, .slice p3 l3 K3] 23)).heap.size := by simp
  have hBA := (Below.refl w1.heap.size w1).alloc (Nat.le_refl _) (.cells #[.slice p1 l1 K1, .slice p2 l2 K2, .slice p3 l3 K3] 23)
  obtain ⟨PP, hPP⟩ : ∃ PP : Nat → Option Addr, PP = fun j => match j with | 0 => p1 | 1 => p2 | _ => p3 := ⟨_, rfl⟩
  obtain ⟨KK, hKK⟩ : ∃ KK : Nat → Nat, KK = fun j => match j with | 0 => K1 | 1 => K2 | _ => K3 := ⟨_, rfl⟩
  obtain ⟨LL, hLL⟩ : ∃ LL : Nat → Nat, LL = fun j => match j with | 0 => l1 | 1 => l2 | _ => l3 := ⟨_, rfl⟩
  obtain ⟨DD', hDD⟩ : ∃ DD' : Nat → List Nat, DD' = fun j => match j with | 0 => ds1 | 1 => ds2 | _ => ds3 := ⟨_, rfl⟩
  have HF := Lib.hid (And.intro hPP (And.intro hKK (And.intro hLL hDD)))
  have hcell : ∀ j, j < 3 → (w1.alloc (.cells #[.slice p1 l1 K1, .slice p2 l2 K2, .slice p3 l3 K3] 23)).cell? ⟨w1.heap.size, j, none⟩ = some (.slice (PP j) (LL j) (KK j)) := by
    intro j hj
    rw [hPP, hKK, hLL]
    match j, hj with
    | 0, _ => simp [go_sem]
    | 1, _ => simp [go_sem]
    | 2, _ => simp [go_sem]
  have hat : ∀ j, j < 3 → At .u32 (w1.alloc (.cells #[.slice p1 l1 K1, .slice p2 l2 K2, .slice p3 l3 K3] 23)) (PP j) (KK j) (DD' j) ∧ (DD' j).length = LL j ∧ Dig 4294967296 (DD' j) := by
    intro j hj
    rw [hPP, hKK, hLL, hDD]
    match j, hj with
    | 0, _ => exact ⟨at1.below hBA (Nat.le_refl _), HL.out.1, HD.out.1⟩
    | 1, _ => exact ⟨at2.below hBA (Nat.le_refl _), HL.out.2.1, HD.out.2.1⟩
    | 2, _ => exact ⟨at3.below hBA (Nat.le_refl _), HL.out.2.2, HD.out.2.2⟩
  have hbA := hb1.trans (hBA.mono hb1.size)
  have HCell := Lib.hid hcell; have HAt := Lib.hid hat
  clear hPP hKK hLL hDD hcell hat hb1 at1 at2 at3
  go_wp2_with fail
  obtain ⟨g, hg⟩ : ∃ g, w1.heap.size = g := ⟨_, rfl⟩
  rw [hg] at hg1 hBA HCell ⊢
  generalize w1.alloc (.cells #[.slice p1 l1 K1, .slice p2 l2 K2, .slice p3 l3 K3] 23) = w2 at *
  have HG := Lib.hid hg
  clear hg hBA
  go_loopw [30] (fun si wr => ∃ k : Nat, k ≤ 3 ∧ si = .int .i64 k ∧ Hid (∀ j, j < k → Fit10 (DD' j)) ∧ Below w2.heap.size w2 wr) (fun si _ => 3 - (intOf si).toNat)
  case atStart => exact ⟨0, by omega, rfl, fun j hj => by omega, Below.refl _ _⟩
  case round =>
    obtain ⟨k, hk, rfl, hfit, hB⟩ := hrel
    by_cases hk3 : k < 3
    · have hkI : (k : Int) < 3 := by omega
      have hc := (hB.cell (p := ⟨g, k, none⟩) hg1).trans (HCell.out k hk3)
      obtain ⟨a1, a2, a3⟩ := HAt.out k hk3
      have a1 := a1.below hB (Nat.le_refl _)
      have HK := Lib.hid hk3
      have hbw := hbA.trans (hB.mono hbA.size)
      clear hk3
      by_cases h10 : 10 < LL k
      · have h10I : (10 : Int) < (LL k : Int) := by omega
        clear h10 a2 a3 a1
        go_wp2_with fail
        go_ret
        exact ⟨rfl, hbw⟩
      · have h10I : ¬ (10 : Int) < (LL k : Int) := by omega
        have h10D : decide (10 < LL k) = false := decide_eq_false h10
        have H10 := Lib.hid (show LL k ≤ 10 by omega)
        clear h10
        by_cases hcut : cut (DD' k) = DD' k
        · have C := Lib.hid (check_good (PP k) (KK k) (LL k) (DD' k) wr a1 a2 (by have := H10.out; omega) hcut)
          have HF2 : Hid (∀ j, j < k + 1 → Fit10 (DD' j)) := by
            intro j hj
            by_cases hjk : j = k
            · rw [hjk]; exact ⟨by rw [a2]; exact H10.out, hcut⟩
            · exact hfit.out j (by omega)
          clear hcut a1 a2 a3 hbw
          go_wp2_with fail
          refine C.out.mono ?_
          clear C
          rintro e w3 ⟨rfl, hB3⟩
          have hB4 := hB.trans (hB3.mono hB.size)
          go_wp2_with fail
          go_roundw
          case rel => exact ⟨k + 1, by have := HK.out; omega, by go_num, HF2.out, hB4⟩
          case measure => have := HK.out; simp [intOf]; omega
        · have C := Lib.hid (check_form (PP k) (KK k) (LL k) (DD' k) wr a1 a2 (by have := H10.out; omega) hcut)
          clear hcut a1 a2 a3
          go_wp2_with fail
          refine C.out.mono ?_
          clear C
          rintro e w3 ⟨rfl, hB3⟩
          go_wp2_with fail
          go_ret
          exact ⟨rfl, hbw.trans (hB3.mono hbw.size)⟩
    · have hkI : ¬ (k : Int) < 3 := by omega
      have hk3' : k = 3 := by omega
      subst hk3'
      have t1 := hfit.out 0 (by decide)
      have t2 := hfit.out 1 (by decide)
      have t3 := hfit.out 2 (by decide)
      obtain ⟨a1, -, -⟩ := HAt.out 0 (by decide)
      obtain ⟨a2, -, -⟩ := HAt.out 1 (by decide)
      obtain ⟨a3, -, -⟩ := HAt.out 2 (by decide)
      rw [HF.out.1, HF.out.2.1, HF.out.2.2.2] at a1 a2 a3
      rw [HF.out.2.2.2] at t1 t2 t3
      have a1 : At .u32 wr p1 K1 ds1 := a1.below hB (Nat.le_refl _)
      have a2 : At .u32 wr p2 K2 ds2 := a2.below hB (Nat.le_refl _)
      have a3 : At .u32 wr p3 K3 ds3 := a3.below hB (Nat.le_refl _)
      replace t1 : Fit10 ds1 := t1
      replace t2 : Fit10 ds2 := t2
      replace t3 : Fit10 ds3 := t3
      have N1 : IsNat wr (.slice p1 l1 K1) (val 4294967296 ds1) := by rw [← HL.out.1]; exact ⟨ds1, ⟨p1, K1, rfl, a1⟩, ⟨HD.out.1, t1.2⟩, rfl⟩
      have N2 : IsNat wr (.slice p2 l2 K2) (val 4294967296 ds2) := by rw [← HL.out.2.1]; exact ⟨ds2, ⟨p2, K2, rfl, a2⟩, ⟨HD.out.2.1, t2.2⟩, rfl⟩
      have N3 : IsNat wr (.slice p3 l3 K3) (val 4294967296 ds3) := by rw [← HL.out.2.2]; exact ⟨ds3, ⟨p3, K3, rfl, a3⟩, ⟨HD.out.2.2, t3.2⟩, rfl⟩
      obtain ⟨e10, he10⟩ : ∃ e : Nat, e = 10 := ⟨_, rfl⟩
      have M1 := list_ten t1 HD.out.1 e10 he10
      have M2 := list_ten t2 HD.out.2.1 e10 he10
      have M3 := list_ten t3 HD.out.2.2 e10 he10
      have hz3 : val 4294967296 ds3 = 0 → l3 = 0 := fun h => by rw [← HL.out.2.2, Can.eq_nil (b := 4294967296) (by decide) ⟨HD.out.2.2, t3.2⟩ h]; rfl
      have hz3' : val 4294967296 ds3 ≠ 0 → l3 ≠ 0 := fun h e => h (by rw [List.eq_nil_of_length_eq_zero (show ds3.length = 0 by rw [HL.out.2.2, e])]; rfl)
      have H3 := Lib.hid (And.intro hz3 hz3')
      obtain ⟨a, ha⟩ : ∃ a, val 4294967296 ds1 = a := ⟨_, rfl⟩
      obtain ⟨b, hb⟩ : ∃ b, val 4294967296 ds2 = b := ⟨_, rfl⟩
      obtain ⟨c, hc⟩ : ∃ c, val 4294967296 ds3 = c := ⟨_, rfl⟩
      rw [ha] at N1 M1
      rw [hb] at N2 M2
      rw [hc] at N3 M3 H3
      have HM := Lib.hid (And.intro (one_ten M1 he10) (And.intro (one_ten M2 he10) (And.intro (one_ten M3 he10) (And.intro (mul_ten M1 M3 he10) (mul_ten M2 M3 he10)))))
      have hbw := hbA.trans (hB.mono hbA.size)
      clear ha hb hc M1 M2 M3 he10 t1 t2 t3 a1 a2 a3 hz3 hz3' hfit hB hk hk3 HCell HAt
      have C := Lib.hid (mul_fit N1 N3 HM.out.1 HM.out.2.2.1 HM.out.2.2.2.1)
      go_wp2_with fail
      refine C.out.mono ?_
      clear C
      rintro e w1 ⟨⟨vx, rfl, NX⟩, hB⟩
      replace N1 := N1.below hB (Nat.le_refl _)
      replace N2 := N2.below hB (Nat.le_refl _)
      replace N3 := N3.below hB (Nat.le_refl _)
      have hb1 := hbw.trans (hB.mono hbw.size)
      clear hB hbw
      have C := Lib.hid (mul_fit N2 N3 HM.out.2.1 HM.out.2.2.1 HM.out.2.2.2.2)
      go_wp2_with fail
      refine C.out.mono ?_
      clear C
      rintro e w2 ⟨⟨vy, rfl, NY⟩, hB⟩
      replace N1 := N1.below hB (Nat.le_refl _)
      replace N2 := N2.below hB (Nat.le_refl _)
      replace N3 := N3.below hB (Nat.le_refl _)
      replace NX := NX.below hB (Nat.le_refl _)
      have hb2 := hb1.trans (hB.mono hb1.size)
      clear hB hb1
      have HX := Lib.hid HM.out.2.2.2.1
      have HY := Lib.hid HM.out.2.2.2.2
      obtain ⟨x, hx⟩ : ∃ x, a * c = x := ⟨_, rfl⟩
      obtain ⟨y, hy⟩ : ∃ y, b * c = y := ⟨_, rfl⟩
      rw [hx] at NX HX
      rw [hy] at NY HY
      have HXY := Lib.hid (And.intro hx hy)
      clear hx hy
      clear N1 N2
      have C := Lib.hid (gcd_any NX NY HX.out HY.out)
      go_wp2_with fail
      refine C.out.mono ?_
      clear C
      rintro e w3 ⟨⟨vg, rfl, NG⟩, hB⟩
      replace N3 := N3.below hB (Nat.le_refl _)
      replace NX := NX.below hB (Nat.le_refl _)
      replace NY := NY.below hB (Nat.le_refl _)
      have hb3 := hb2.trans (hB.mono hb2.size)
      clear hB hb2
      have HGE : Hid (Nat.gcd x y = Nat.gcd x y) := rfl
      obtain ⟨g', hg'⟩ : ∃ g', Nat.gcd x y = g' := ⟨_, rfl⟩
      rw [hg'] at NG
      have HGG := Lib.hid hg'
      clear hg' HGE
      obtain ⟨px, lx, Kx, rfl, hx0, hx1⟩ := NX.slice
      obtain ⟨py, ly, Ky, rfl, hy0, hy1⟩ := NY.slice
      have HLX := Lib.hid (And.intro hx0 hx1)
      have HLY := Lib.hid (And.intro hy0 hy1)
      have O1 := Lib.hid (show ∀ W, Calls Try.prog 25 #[.int .u64 1] W fun e w' => (∃ v, e = .returned v ∧ IsNat w' v 1) ∧ Below W.heap.size W w' from fun W => of_any 1 W (by decide))
      clear hx0 hx1 hy0 hy1
      by_cases h00 : x = 0 ∧ y = 0
      · have e1 := HLX.out.1 h00.1
        have e2 := HLY.out.1 h00.2
        have hg0 : g' = 0 := by rw [← HGG.out, h00.1, h00.2]; rfl
        obtain ⟨pg, Kg, rfl⟩ := (NG.eq hg0).nought
        subst e1
        subst e2
        clear h00 hg0
        go_wp2
        go_ret
        exact ⟨rfl, hb3⟩
      have hgp : 0 < g' := by
        rw [← HGG.out]
        rcases Nat.eq_zero_or_pos (Nat.gcd x y) with h | h
        · exact absurd (Nat.gcd_eq_zero_iff.1 h) h00
        · exact h
      have hgl : g' < maxN := by
        rw [← HGG.out]
        by_cases hx0 : x = 0
        · rw [hx0, Nat.gcd_zero_left]; exact HY.out
        · exact Nat.lt_of_le_of_lt (Nat.gcd_le_left y (Nat.pos_of_ne_zero hx0)) HX.out
      have HGP := Lib.hid hgp
      have HG := Lib.hid hgl
      have HR1 := Lib.hid (show x % g' = 0 from Nat.mod_eq_zero_of_dvd (by rw [← HGG.out]; exact Nat.gcd_dvd_left x y))
      have HR2 := Lib.hid (show y % g' = 0 from Nat.mod_eq_zero_of_dvd (by rw [← HGG.out]; exact Nat.gcd_dvd_right x y))
      have HR3 := Lib.hid (show g' % c = 0 from Nat.mod_eq_zero_of_dvd (by rw [← HGG.out, ← HXY.out.1, ← HXY.out.2]; exact Nat.dvd_gcd (Nat.dvd_mul_left c a) (Nat.dvd_mul_left c b)))
      have HP1 := Lib.hid (Nat.lt_of_le_of_lt (Nat.div_le_self x g') HX.out)
      have HQ1 := Lib.hid (Nat.lt_of_le_of_lt (Nat.div_le_self y g') HY.out)
      have HONE := Lib.hid (show Nat.gcd (x / g') (y / g') = 1 by rw [← HGG.out]; exact gcd_parts (by rw [HGG.out]; exact HGP.out))
      have HCM := Lib.hid (show Nat.gcd y x = g' by rw [Nat.gcd_comm]; exact HGG.out)
      clear hgp hgl
      by_cases hx0 : x = 0
      · have e1 := HLX.out.1 hx0
        obtain ⟨e2, e3⟩ := HLY.out.2 (fun h => h00 ⟨hx0, h⟩)
        subst e1
        clear h00 hx0
        have C := Lib.hid (div_nat NX NG HX.out HG.out HGP.out)
        go_wp2_with fail
        refine C.out.mono ?_
        clear C
        rintro e w4 ⟨⟨vp, vr, rfl, NP, NR⟩, hB⟩
        replace N3 := N3.below hB (Nat.le_refl _)
        replace NX := NX.below hB (Nat.le_refl _)
        replace NY := NY.below hB (Nat.le_refl _)
        replace NG := NG.below hB (Nat.le_refl _)
        have hb4 := hb3.trans (hB.mono hb3.size)
        clear hB hb3
        have C := Lib.hid (div_nat NY NG HY.out HG.out HGP.out)
        go_wp2_with fail
        refine C.out.mono ?_
        clear C
        rintro e w5 ⟨⟨vq, vs, rfl, NQ, NS⟩, hB⟩
        replace N3 := N3.below hB (Nat.le_refl _)
        replace NX := NX.below hB (Nat.le_refl _)
        replace NY := NY.below hB (Nat.le_refl _)
        replace NG := NG.below hB (Nat.le_refl _)
        replace NP := NP.below hB (Nat.le_refl _)
        have hb5 := hb4.trans (hB.mono hb4.size)
        clear hB hb4
        obtain ⟨pr, Kr, rfl⟩ := (NR.eq HR1.out).nought
        obtain ⟨ps, Ks, rfl⟩ := (NS.eq HR2.out).nought
        clear NR NS
        have C := Lib.hid (gcd_any NP NQ HP1.out HQ1.out)
        go_wp2_with fail
        refine C.out.mono ?_
        clear C
        rintro e w6 ⟨⟨vo, rfl, NO⟩, hB⟩
        replace N3 := N3.below hB (Nat.le_refl _)
        replace NX := NX.below hB (Nat.le_refl _)
        replace NY := NY.below hB (Nat.le_refl _)
        replace NG := NG.below hB (Nat.le_refl _)
        replace NP := NP.below hB (Nat.le_refl _)
        replace NQ := NQ.below hB (Nat.le_refl _)
        have hb6 := hb5.trans (hB.mono hb5.size)
        clear hB hb5
        go_wp2_with fail
        refine (O1.out _).mono ?_
        rintro e w7 ⟨⟨v1, rfl, N1⟩, hB⟩
        replace N3 := N3.below hB (Nat.le_refl _)
        replace NX := NX.below hB (Nat.le_refl _)
        replace NY := NY.below hB (Nat.le_refl _)
        replace NG := NG.below hB (Nat.le_refl _)
        replace NP := NP.below hB (Nat.le_refl _)
        replace NQ := NQ.below hB (Nat.le_refl _)
        replace NO := NO.below hB (Nat.le_refl _)
        have hb7 := hb6.trans (hB.mono hb6.size)
        clear hB hb6
        have C := Lib.hid (equal_yes (NO.eq HONE.out) N1 (lt_maxN (by decide)))
        go_wp2_with fail
        refine C.out.mono ?_
        clear C
        rintro e w8 ⟨rfl, hB⟩
        replace N3 := N3.below hB (Nat.le_refl _)
        replace NX := NX.below hB (Nat.le_refl _)
        replace NY := NY.below hB (Nat.le_refl _)
        replace NG := NG.below hB (Nat.le_refl _)
        replace NP := NP.below hB (Nat.le_refl _)
        replace NQ := NQ.below hB (Nat.le_refl _)
        replace NO := NO.below hB (Nat.le_refl _)
        replace N1 := N1.below hB (Nat.le_refl _)
        have hb8 := hb7.trans (hB.mono hb7.size)
        clear hB hb7
        clear NO N1 NP NQ
        by_cases hc0 : c = 0
        · have hl0 := H3.out.1 hc0
          subst hl0
          clear hc0
          go_wp2
          go_ret
          exact ⟨rfl, hb8⟩
        · have hl0 := H3.out.2 hc0
          have hl0b : ((l3 : Int) == 0) = false := beq_eq_false_iff_ne.2 (by omega)
          have HCP := Lib.hid (Nat.pos_of_ne_zero hc0)
          clear hc0 hl0
          have C := Lib.hid (div_nat NG N3 HG.out HM.out.2.2.1 HCP.out)
          go_wp2_with fail
          refine C.out.mono ?_
          clear C
          rintro e w9 ⟨⟨vt, vu, rfl, NT, NU⟩, hB⟩
          replace N3 := N3.below hB (Nat.le_refl _)
          replace NX := NX.below hB (Nat.le_refl _)
          replace NY := NY.below hB (Nat.le_refl _)
          replace NG := NG.below hB (Nat.le_refl _)
          have hb9 := hb8.trans (hB.mono hb8.size)
          clear hB hb8
          obtain ⟨pu, Ku, rfl⟩ := (NU.eq HR3.out).nought
          clear NT NU
          have C := Lib.hid (gcd_any NY NX HY.out HX.out)
          go_wp2_with fail
          refine C.out.mono ?_
          clear C
          rintro e w10 ⟨⟨vw, rfl, NW⟩, hB⟩
          replace N3 := N3.below hB (Nat.le_refl _)
          replace NX := NX.below hB (Nat.le_refl _)
          replace NY := NY.below hB (Nat.le_refl _)
          replace NG := NG.below hB (Nat.le_refl _)
          have hb10 := hb9.trans (hB.mono hb9.size)
          clear hB hb9
          have C := Lib.hid (equal_yes NG (NW.eq HCM.out) HG.out)
          go_wp2_with fail
          refine C.out.mono ?_
          clear C
          rintro e w11 ⟨rfl, hB⟩
          replace N3 := N3.below hB (Nat.le_refl _)
          replace NX := NX.below hB (Nat.le_refl _)
          replace NY := NY.below hB (Nat.le_refl _)
          replace NG := NG.below hB (Nat.le_refl _)
          replace NW := NW.below hB (Nat.le_refl _)
          have hb11 := hb10.trans (hB.mono hb10.size)
          clear hB hb10
          go_wp2
          go_ret
          exact ⟨rfl, hb11⟩
      · obtain ⟨e2, e3⟩ := HLX.out.2 hx0
        clear h00 hx0
        have C := Lib.hid (div_nat NX NG HX.out HG.out HGP.out)
        go_wp2_with fail
        refine C.out.mono ?_
        clear C
        rintro e w4 ⟨⟨vp, vr, rfl, NP, NR⟩, hB⟩
        replace N3 := N3.below hB (Nat.le_refl _)
        replace NX := NX.below hB (Nat.le_refl _)
        replace NY := NY.below hB (Nat.le_refl _)
        replace NG := NG.below hB (Nat.le_refl _)
        have hb4 := hb3.trans (hB.mono hb3.size)
        clear hB hb3
        have C := Lib.hid (div_nat NY NG HY.out HG.out HGP.out)
        go_wp2_with fail
        refine C.out.mono ?_
        clear C
        rintro e w5 ⟨⟨vq, vs, rfl, NQ, NS⟩, hB⟩
        replace N3 := N3.below hB (Nat.le_refl _)
        replace NX := NX.below hB (Nat.le_refl _)
        replace NY := NY.below hB (Nat.le_refl _)
        replace NG := NG.below hB (Nat.le_refl _)
        replace NP := NP.below hB (Nat.le_refl _)
        have hb5 := hb4.trans (hB.mono hb4.size)
        clear hB hb4
        obtain ⟨pr, Kr, rfl⟩ := (NR.eq HR1.out).nought
        obtain ⟨ps, Ks, rfl⟩ := (NS.eq HR2.out).nought
        clear NR NS
        have C := Lib.hid (gcd_any NP NQ HP1.out HQ1.out)
        go_wp2_with fail
        refine C.out.mono ?_
        clear C
        rintro e w6 ⟨⟨vo, rfl, NO⟩, hB⟩
        replace N3 := N3.below hB (Nat.le_refl _)
        replace NX := NX.below hB (Nat.le_refl _)
        replace NY := NY.below hB (Nat.le_refl _)
        replace NG := NG.below hB (Nat.le_refl _)
        replace NP := NP.below hB (Nat.le_refl _)
        replace NQ := NQ.below hB (Nat.le_refl _)
        have hb6 := hb5.trans (hB.mono hb5.size)
        clear hB hb5
        go_wp2_with fail
        refine (O1.out _).mono ?_
        rintro e w7 ⟨⟨v1, rfl, N1⟩, hB⟩
        replace N3 := N3.below hB (Nat.le_refl _)
        replace NX := NX.below hB (Nat.le_refl _)
        replace NY := NY.below hB (Nat.le_refl _)
        replace NG := NG.below hB (Nat.le_refl _)
        replace NP := NP.below hB (Nat.le_refl _)
        replace NQ := NQ.below hB (Nat.le_refl _)
        replace NO := NO.below hB (Nat.le_refl _)
        have hb7 := hb6.trans (hB.mono hb6.size)
        clear hB hb6
        have C := Lib.hid (equal_yes (NO.eq HONE.out) N1 (lt_maxN (by decide)))
        go_wp2_with fail
        refine C.out.mono ?_
        clear C
        rintro e w8 ⟨rfl, hB⟩
        replace N3 := N3.below hB (Nat.le_refl _)
        replace NX := NX.below hB (Nat.le_refl _)
        replace NY := NY.below hB (Nat.le_refl _)
        replace NG := NG.below hB (Nat.le_refl _)
        replace NP := NP.below hB (Nat.le_refl _)
        replace NQ := NQ.below hB (Nat.le_refl _)
        replace NO := NO.below hB (Nat.le_refl _)
        replace N1 := N1.below hB (Nat.le_refl _)
        have hb8 := hb7.trans (hB.mono hb7.size)
        clear hB hb7
        clear NO N1 NP NQ
        by_cases hc0 : c = 0
        · have hl0 := H3.out.1 hc0
          subst hl0
          clear hc0
          go_wp2
          go_ret
          exact ⟨rfl, hb8⟩
        · have hl0 := H3.out.2 hc0
          have hl0b : ((l3 : Int) == 0) = false := beq_eq_false_iff_ne.2 (by omega)
          have HCP := Lib.hid (Nat.pos_of_ne_zero hc0)
          clear hc0 hl0
          have C := Lib.hid (div_nat NG N3 HG.out HM.out.2.2.1 HCP.out)
          go_wp2_with fail
          refine C.out.mono ?_
          clear C
          rintro e w9 ⟨⟨vt, vu, rfl, NT, NU⟩, hB⟩
          replace N3 := N3.below hB (Nat.le_refl _)
          replace NX := NX.below hB (Nat.le_refl _)
          replace NY := NY.below hB (Nat.le_refl _)
          replace NG := NG.below hB (Nat.le_refl _)
          have hb9 := hb8.trans (hB.mono hb8.size)
          clear hB hb8
          obtain ⟨pu, Ku, rfl⟩ := (NU.eq HR3.out).nought
          clear NT NU
          have C := Lib.hid (gcd_any NY NX HY.out HX.out)
          go_wp2_with fail
          refine C.out.mono ?_
          clear C
          rintro e w10 ⟨⟨vw, rfl, NW⟩, hB⟩
          replace N3 := N3.below hB (Nat.le_refl _)
          replace NX := NX.below hB (Nat.le_refl _)
          replace NY := NY.below hB (Nat.le_refl _)
          replace NG := NG.below hB (Nat.le_refl _)
          have hb10 := hb9.trans (hB.mono hb9.size)
          clear hB hb9
          have C := Lib.hid (equal_yes NG (NW.eq HCM.out) HG.out)
          go_wp2_with fail
          refine C.out.mono ?_
          clear C
          rintro e w11 ⟨rfl, hB⟩
          replace N3 := N3.below hB (Nat.le_refl _)
          replace NX := NX.below hB (Nat.le_refl _)
          replace NY := NY.below hB (Nat.le_refl _)
          replace NG := NG.below hB (Nat.le_refl _)
          replace NW := NW.below hB (Nat.le_refl _)
          have hb11 := hb10.trans (hB.mono hb10.size)
          clear hB hb10
          go_wp2
          go_ret
          exact ⟨rfl, hb11⟩

end Go.Proofs.Ytphhaaofkckobaa
