/-
  girdlelaw01.LimbsShifts, as a walk: whatever the list and the number, it returns true.
-/
import Derived.Test.YtphhaaofkckobaaDoorLdivs
import Derived.Test.YtphhaaofkckobaaDoorRpow
import Derived.Test.YtphhaaofkckobaaDoorTail
namespace Go.Proofs.YtphhaaofkckobaaDoor
open Go.RowKit

/-- How many bits a number has. -/
def nbits (n : Nat) : Nat := if n = 0 then 0 else Nat.log2 n + 1
theorem nbits_of {n t : Nat} (h1 : 1 ≤ t) (h2 : 2 ^ (t - 1) ≤ n) (h3 : n < 2 ^ t) : nbits n = t := by
  have h0 : n ≠ 0 := by have := Nat.two_pow_pos (t - 1); omega
  unfold nbits
  rw [if_neg h0]
  have h4 : t - 1 ≤ Nat.log2 n := (Nat.le_log2 h0).2 h2
  have h5 : Nat.log2 n < t := (Nat.log2_lt h0).2 h3
  omega
theorem nbits_spec {n : Nat} (h : n ≠ 0) : 1 ≤ nbits n ∧ 2 ^ (nbits n - 1) ≤ n ∧ n < 2 ^ nbits n := by
  unfold nbits
  rw [if_neg h, Nat.add_sub_cancel]
  exact ⟨by omega, Nat.log2_self_le h, Nat.lt_log2_self⟩
theorem nbits_shl {m : Nat} (n : Nat) (h : m ≠ 0) : nbits (m * 2 ^ n) = nbits m + n := by
  obtain ⟨h1, h2, h3⟩ := nbits_spec h
  refine nbits_of (by omega) ?_ ?_
  · rw [show nbits m + n - 1 = nbits m - 1 + n by omega, Nat.pow_add]
    exact Nat.mul_le_mul_right _ h2
  · rw [Nat.pow_add]
    exact Nat.mul_lt_mul_of_pos_right h3 (Nat.two_pow_pos n)
theorem bitsOf_nbits {ds : List Nat} (h : Can 4294967296 ds) : bitsOf ds = nbits (val 4294967296 ds) := by
  by_cases h0 : ds = []
  · subst h0; rfl
  · obtain ⟨b1, b2, b3⟩ := bits_bounds h h0
    exact (nbits_of b1 b2 b3).symm
theorem nbits_lt {m : Nat} (h : m < maxN) : nbits m ≤ 16384 := by
  by_cases h0 : m = 0
  · subst h0; simp [nbits]
  · obtain ⟨q, hq⟩ : ∃ q : Nat, q = 32 * 512 := ⟨_, rfl⟩
    rw [maxN_two q 512 rfl hq] at h
    obtain ⟨h1, h2, h3⟩ := nbits_spec h0
    have := (Nat.pow_lt_pow_iff_right (a := 2) (by decide)).1 (Nat.lt_of_le_of_lt h2 h)
    omega
theorem n40_two (q k : Nat) (hk : k = 40) (hq : q = 32 * k) : N40 = 2 ^ q := by
  rw [hq, Nat.pow_mul, show (2 : Nat) ^ 32 = 4294967296 from by decide]
  unfold N40
  rw [hk]
theorem nbits_40 {m : Nat} (h : m < N40) : nbits m ≤ 1280 := by
  by_cases h0 : m = 0
  · subst h0; simp [nbits]
  · obtain ⟨q, hq⟩ : ∃ q : Nat, q = 1280 := ⟨_, rfl⟩
    rw [n40_two q 40 rfl (by omega)] at h
    obtain ⟨h1, h2, h3⟩ := nbits_spec h0
    have := (Nat.pow_lt_pow_iff_right (a := 2) (by decide)).1 (Nat.lt_of_le_of_lt h2 h)
    omega
theorem shl_lt_max {m n : Nat} (h0 : m ≠ 0) : m * 2 ^ n < maxN ↔ nbits m + n ≤ 16384 := by
  constructor
  · intro h
    have := nbits_lt h
    rwa [nbits_shl n h0] at this
  · intro h
    obtain ⟨q, hq⟩ : ∃ q : Nat, q = 32 * 512 := ⟨_, rfl⟩
    rw [maxN_two q 512 rfl hq]
    obtain ⟨h1, h2, h3⟩ := nbits_spec h0
    refine Nat.lt_of_lt_of_le (Nat.mul_lt_mul_of_pos_right h3 (Nat.two_pow_pos n)) ?_
    rw [← Nat.pow_add]
    exact Nat.pow_le_pow_right (by decide) (by omega)
theorem bits_nat {va : Value} {m : Nat} {w : World} (ha : IsNat w va m) (hm : m < maxN) {t : Nat} (ht : nbits m = t) :
    Calls Tryd.prog 28 #[va] w fun e w' => e = .returned (.int .i64 t) ∧ Below w.heap.size w w' := by
  obtain ⟨ds, hn, hc, rfl⟩ := ha
  subst ht
  rw [← bitsOf_nbits hc]
  exact bits_any hn hc (by have := hc.len_max.2 hm; omega)
theorem tail_le {m t : Nat} (hm : m < maxN) (h : TailIs m t) : t ≤ 16384 := by
  rcases h with ⟨_, rfl⟩ | ⟨k, rfl⟩
  · omega
  · obtain ⟨q, hq⟩ : ∃ q : Nat, q = 32 * 512 := ⟨_, rfl⟩
    rw [maxN_two q 512 rfl hq] at hm
    have h1 := Nat.le_mul_of_pos_right (2 ^ t) (show 0 < 2 * k + 1 by omega)
    have := (Nat.pow_lt_pow_iff_right (a := 2) (by decide)).1 (Nat.lt_of_le_of_lt h1 hm)
    omega
theorem odd_uniq {t s m k : Nat} (h : 2 ^ s * (2 * k + 1) = 2 ^ t * (2 * m + 1)) : t = s := by
  rcases Nat.lt_trichotomy t s with h1 | h1 | h1
  · exfalso
    rw [show 2 ^ s = 2 ^ t * 2 ^ (s - t) by rw [← Nat.pow_add]; congr 1; omega, Nat.mul_assoc] at h
    have h2 := Nat.eq_of_mul_eq_mul_left (Nat.two_pow_pos t) h
    rw [show s - t = s - t - 1 + 1 by omega, Nat.pow_succ] at h2
    generalize 2 ^ (s - t - 1) = a at *
    have h3 : a * 2 * (2 * k + 1) = 2 * (a * (2 * k + 1)) := by grind
    omega
  · exact h1
  · exfalso
    rw [show 2 ^ t = 2 ^ s * 2 ^ (t - s) by rw [← Nat.pow_add]; congr 1; omega, Nat.mul_assoc] at h
    have h2 := Nat.eq_of_mul_eq_mul_left (Nat.two_pow_pos s) h
    rw [show t - s = t - s - 1 + 1 by omega, Nat.pow_succ] at h2
    generalize 2 ^ (t - s - 1) = a at *
    have h3 : a * 2 * (2 * m + 1) = 2 * (a * (2 * m + 1)) := by grind
    omega
theorem tail_uniq {n t s : Nat} (h0 : n ≠ 0) (h : TailIs n t) (k : TailIs n s) : t = s := by
  rcases h with ⟨h, _⟩ | ⟨a, ha⟩
  · exact absurd h h0
  · rcases k with ⟨h, _⟩ | ⟨b, hb⟩
    · exact absurd h h0
    · exact odd_uniq (hb.symm.trans ha)
theorem tail_shl {m t n : Nat} (h0 : m ≠ 0) (h : TailIs m t) : TailIs (m * 2 ^ n) (t + n) := by
  rcases h with ⟨h, _⟩ | ⟨a, rfl⟩
  · exact absurd h h0
  · exact .inr ⟨a, by rw [Nat.pow_add]; grind⟩
theorem Tab.go {w w' : World} (h : Tab w) (hb : Below w.heap.size w w') : Tab w' := h.below hb
theorem tail_nat {va : Value} {m : Nat} {w : World} (ha : IsNat w va m) (hm : m < maxN) (hT : Tab w) :
    Calls Tryd.prog 30 #[va] w fun e w' => (∃ t : Nat, e = .returned (.int .i64 t) ∧ t ≤ 16384 ∧ Hid (TailIs m t)) ∧ Below w.heap.size w w' := by
  obtain ⟨ds, hn, hc, rfl⟩ := ha
  refine (tail_any hn hc.1 (by have := hc.len_max.2 hm; omega) hT).mono ?_
  rintro e w' ⟨⟨t, rfl, ht⟩, rfl⟩
  exact ⟨⟨t, rfl, tail_le hm ht, ht⟩, Below.refl _ _⟩
theorem IsNat.nought {w : World} {v : Value} (h : IsNat w v 0) : ∃ p K, v = .slice p 0 K := by
  obtain ⟨ds, ⟨p, K, rfl, _⟩, hc, hv⟩ := h
  rw [hc.eq_nil (by decide) hv]
  exact ⟨p, K, rfl⟩
theorem left_over {va : Value} {m : Nat} {w : World} (ha : IsNat w va m) (hm : m < maxN) (n : Nat) (hn : n ≤ 9223372036854775807) (h : maxN ≤ m * 2 ^ n) :
    Calls Tryd.prog 26 #[va, .int .i64 n] w fun e w' => e = .returned (.tuple #[.slice none 0 0, .int .i64 11]) ∧ Below w.heap.size w w' := by
  refine (left_any ha hm n hn).mono ?_
  rintro e w' ⟨⟨v, c, rfl, hf⟩, hB⟩
  obtain ⟨rfl, rfl⟩ := hf.2 h
  exact ⟨rfl, hB⟩
theorem fit_one' (p : Option Addr) (K : Nat) (ds : List Nat) (w : World) (hat : At .u32 w p K ds) (l : Nat) (hl : ds.length = l) :
    Calls Tryd.prog 12 #[.slice (some ⟨w.heap.size, 0, none⟩) 1 1] (w.alloc (.cells #[.slice p l K] 23)) fun e w' => (∃ b, e = .returned (.bool b) ∧ Hid (b = true → Tried ds)) ∧ Below w.heap.size w w' :=
  (fit_one p K ds w hat l hl).mono fun _ _ h => ⟨⟨_, h.1, fun hb => triedAll_out hb 0 (by decide)⟩, h.2⟩

set_option maxRecDepth 100000 in
set_option maxHeartbeats 4000000 in
theorem limbsShifts_any (p1 : Option Addr) (K1 : Nat) (ds1 : List Nat) (w : World) (hT : Tab w) (at1 : At .u32 w p1 K1 ds1) (d1 : Dig 4294967296 ds1) (k : Int) (hk0 : -9223372036854775808 ≤ k) (hk1 : k ≤ 9223372036854775807) :
    Calls Tryd.prog 6 #[.slice p1 ds1.length K1, .int .i64 k] w fun e w' => e = .returned (.bool true) ∧ Below w.heap.size w w' := by
  have R := Lib.hid (reckons_any w hT)
  have HT := Lib.hid hT
  have HD1 := Lib.hid d1
  obtain ⟨l1, hl1⟩ : ∃ l, ds1.length = l := ⟨_, rfl⟩
  have HL1 := Lib.hid hl1
  rw [hl1]
  clear hT d1 hl1
  go_enter Tryd.func6, Tryd.ntmps6
  have C := Lib.hid (R.out)
  go_wp2_with fail
  refine C.out.mono ?_
  clear C
  rintro e w1 ⟨rfl, hB⟩
  replace at1 := at1.below hB (Nat.le_refl _)
  have hb1 := hB
  clear hB
  have C := Lib.hid (fit_one' p1 K1 ds1 w1 at1 l1 HL1.out)
  go_wp2_with fail
  refine C.out.mono ?_
  clear C
  rintro e w2 ⟨⟨b, rfl, hb⟩, hB⟩
  replace at1 := at1.below hB (Nat.le_refl _)
  have hb2 := hb1.trans (hB.mono hb1.size)
  clear hB hb1
  cases b with
  | false =>
    go_wp2
    go_ret
    exact ⟨rfl, hb2⟩
  | true =>
    have t1 := hb.out rfl
    clear hb
    have N1 : IsNat w2 (.slice p1 l1 K1) (val 4294967296 ds1) := by rw [← HL1.out]; exact ⟨ds1, ⟨p1, K1, rfl, at1⟩, tried_can t1 HD1.out, rfl⟩
    have M1 := t1.lt HD1.out
    have T1 := Lib.hid t1
    obtain ⟨n1, hn1⟩ : ∃ n, val 4294967296 ds1 = n := ⟨_, rfl⟩
    rw [hn1] at N1 M1
    have V1 := Lib.hid hn1
    have HM1 := Lib.hid M1
    have HN1 := Lib.hid (n40_lt M1)
    clear M1 t1 hn1
    clear at1
    have HT2 := Lib.hid (HT.out.below hb2)
    by_cases hneg : k < 0
    · have hneg' := hneg
      have C := Lib.hid (left_neg N1 HN1.out k hneg)
      go_wp2_with fail
      refine C.out.mono ?_
      clear C
      rintro e w3 ⟨rfl, hB⟩
      replace N1 := N1.below hB (Nat.le_refl _)
      have hb3 := hb2.trans (hB.mono hb2.size)
      clear hB hb2
      have C := Lib.hid (right_neg N1 HN1.out k hneg)
      go_wp2_with fail
      refine C.out.mono ?_
      clear C
      rintro e w4 ⟨rfl, hB⟩
      replace N1 := N1.below hB (Nat.le_refl _)
      have hb4 := hb3.trans (hB.mono hb3.size)
      clear hB hb3
      go_wp2
      go_ret
      exact ⟨rfl, hb4⟩
    · obtain ⟨n, rfl⟩ : ∃ n : Nat, k = (n : Int) := ⟨k.toNat, by omega⟩
      have hn63 : n ≤ 9223372036854775807 := by omega
      have H63 := Lib.hid hn63
      clear hk0 hk1 hneg hn63
      by_cases h0 : n1 = 0
      · subst h0
        have hl0 : l1 = 0 := by
          have h1 := (tried_can T1.out HD1.out).eq_nil (by decide) V1.out
          have := HL1.out
          rw [h1] at this
          simpa using this.symm
        subst hl0
        have C := Lib.hid (left_fit N1 HN1.out n H63.out (by rw [Nat.zero_mul]; exact HN1.out))
        go_wp2_with fail
        refine C.out.mono ?_
        clear C
        rintro e w3 ⟨⟨vl, rfl, NL⟩, hB⟩
        replace N1 := N1.below hB (Nat.le_refl _)
        have hb3 := hb2.trans (hB.mono hb2.size)
        clear hB hb2
        have C := Lib.hid (right_any N1 HN1.out n H63.out)
        go_wp2_with fail
        refine C.out.mono ?_
        clear C
        rintro e w4 ⟨⟨vr, rfl, NR⟩, hB⟩
        replace N1 := N1.below hB (Nat.le_refl _)
        replace NL := NL.below hB (Nat.le_refl _)
        have hb4 := hb3.trans (hB.mono hb3.size)
        clear hB hb3
        obtain ⟨pl, Kl, rfl⟩ := (NL.eq (Nat.zero_mul _)).nought
        obtain ⟨pr, Kr, rfl⟩ := (NR.eq (Nat.zero_div _)).nought
        have hnI : ¬ (n : Int) < 0 := by omega
        go_wp2
        go_ret
        exact ⟨rfl, hb4⟩
      · have hl0 : ((l1 : Int) == 0) = false := by
          refine beq_eq_false_iff_ne.2 (fun e => h0 ?_)
          have h1 : ds1.length = 0 := by have := HL1.out; omega
          rw [← V1.out, List.eq_nil_of_length_eq_zero h1]
          rfl
        have H0 := Lib.hid h0
        have hb1280 := nbits_40 HM1.out
        obtain ⟨t, ht⟩ : ∃ t, nbits n1 = t := ⟨_, rfl⟩
        rw [ht] at hb1280
        have HB := Lib.hid ht
        have hl40 : l1 ≤ 40 := by have := T1.out.1; have := HL1.out; omega
        have hnI : ¬ (n : Int) < 0 := by omega
        clear h0 ht
        by_cases hbig : 2000 < n
        · have hbI : (2000 : Int) < (n : Int) := by omega
          have h32 : ¬ (n : Int) < 32 * (l1 : Int) := by omega
          have h32d : decide ((n : Int) < 32 * (l1 : Int)) = false := decide_eq_false h32
          have HZ : Hid (n1 / 2 ^ n = 0) := by
            show _ = _
            refine Nat.div_eq_of_lt (Nat.lt_of_lt_of_le (nbits_spec H0.out).2.2 (Nat.pow_le_pow_right (by decide) ?_))
            have := HB.out
            omega
          by_cases hfit : t + n ≤ 16384
          · have hfI : (n : Int) ≤ 16384 := by omega
            have hfI2 : (t : Int) + (n : Int) ≤ 16384 := by omega
            have HF := Lib.hid ((shl_lt_max (n := n) H0.out).2 (by rw [HB.out]; exact hfit))
            clear hbig hfit
            have C := Lib.hid (left_fit N1 HN1.out n H63.out HF.out)
            go_wp2_with fail
            refine C.out.mono ?_
            clear C
            rintro e w3 ⟨⟨vl, rfl, NL⟩, hB⟩
            replace N1 := N1.below hB (Nat.le_refl _)
            have hb3 := hb2.trans (hB.mono hb2.size)
            clear hB hb2
            have C := Lib.hid (right_any N1 HN1.out n H63.out)
            go_wp2_with fail
            refine C.out.mono ?_
            clear C
            rintro e w4 ⟨⟨vr, rfl, NR⟩, hB⟩
            replace N1 := N1.below hB (Nat.le_refl _)
            replace NL := NL.below hB (Nat.le_refl _)
            have hb4 := hb3.trans (hB.mono hb3.size)
            clear hB hb3
            obtain ⟨pr, Kr, rfl⟩ := (NR.eq HZ.out).nought
            clear NR NL
            have C := Lib.hid (bits_nat N1 HN1.out HB.out)
            go_wp2_with fail
            refine C.out.mono ?_
            clear C
            rintro e w5 ⟨rfl, hB⟩
            replace N1 := N1.below hB (Nat.le_refl _)
            have hb5 := hb4.trans (hB.mono hb4.size)
            clear hB hb4
            go_wp2
            go_ret
            exact ⟨rfl, hb5⟩
          · have HF := Lib.hid (show maxN ≤ n1 * 2 ^ n from Nat.le_of_not_lt fun h => hfit (by have := (shl_lt_max H0.out).1 h; rwa [HB.out] at this))
            have hfI2 : ¬ (t : Int) + (n : Int) ≤ 16384 := by omega
            have hfI2d : decide ((t : Int) + (n : Int) ≤ 16384) = false := decide_eq_false hfI2
            clear hbig hfit
            have C := Lib.hid (left_over N1 HN1.out n H63.out HF.out)
            go_wp2_with fail
            refine C.out.mono ?_
            clear C
            rintro e w3 ⟨rfl, hB⟩
            replace N1 := N1.below hB (Nat.le_refl _)
            have hb3 := hb2.trans (hB.mono hb2.size)
            clear hB hb2
            have C := Lib.hid (right_any N1 HN1.out n H63.out)
            go_wp2_with fail
            refine C.out.mono ?_
            clear C
            rintro e w4 ⟨⟨vr, rfl, NR⟩, hB⟩
            replace N1 := N1.below hB (Nat.le_refl _)
            have hb4 := hb3.trans (hB.mono hb3.size)
            clear hB hb3
            obtain ⟨pr, Kr, rfl⟩ := (NR.eq HZ.out).nought
            clear NR
            by_cases hn16 : n ≤ 16384
            · have hfI : (n : Int) ≤ 16384 := by omega
              clear hn16
              have C := Lib.hid (bits_nat N1 HN1.out HB.out)
              go_wp2_with fail
              refine C.out.mono ?_
              clear C
              rintro e w5 ⟨rfl, hB⟩
              replace N1 := N1.below hB (Nat.le_refl _)
              have hb5 := hb4.trans (hB.mono hb4.size)
              clear hB hb4
              go_wp2
              go_ret
              exact ⟨rfl, hb5⟩
            · have hfI : ¬ (n : Int) ≤ 16384 := by omega
              have hfId : decide ((n : Int) ≤ 16384) = false := decide_eq_false hfI
              clear hn16
              go_wp2
              go_ret
              exact ⟨rfl, hb4⟩
        · have hbI : ¬ (2000 : Int) < (n : Int) := by omega
          have h2000 : n ≤ 2000 := by omega
          have HF := Lib.hid ((shl_lt_max (n := n) H0.out).2 (by rw [HB.out]; omega))
          have HP : Hid (2 ^ n < maxN) := Lib.hid (Nat.lt_of_le_of_lt (Nat.le_mul_of_pos_left _ (by have := H0.out; omega)) HF.out)
          have HQ : Hid (n1 / 2 ^ n < maxN) := Lib.hid (Nat.lt_of_le_of_lt (Nat.div_le_self _ _) HN1.out)
          have HPP := Lib.hid (Nat.two_pow_pos n)
          have HB2 := Lib.hid ((nbits_shl n H0.out).trans (by rw [HB.out]))
          have HBK := Lib.hid (Nat.mul_div_cancel n1 (Nat.two_pow_pos n))
          have h2000' := Lib.hid h2000
          clear hbig
          have C := Lib.hid (left_fit N1 HN1.out n H63.out HF.out)
          go_wp2_with fail
          refine C.out.mono ?_
          clear C
          rintro e w3 ⟨⟨vl, rfl, NL⟩, hB⟩
          replace N1 := N1.below hB (Nat.le_refl _)
          have hb3 := hb2.trans (hB.mono hb2.size)
          clear hB hb2
          have C := Lib.hid (right_any N1 HN1.out n H63.out)
          go_wp2_with fail
          refine C.out.mono ?_
          clear C
          rintro e w4 ⟨⟨vr, rfl, NR⟩, hB⟩
          replace N1 := N1.below hB (Nat.le_refl _)
          replace NL := NL.below hB (Nat.le_refl _)
          have hb4 := hb3.trans (hB.mono hb3.size)
          clear hB hb3
          have C := Lib.hid (refPow_any n w4 (by have := h2000'.out; omega))
          go_wp2_with fail
          refine C.out.mono ?_
          clear C
          rintro e w5 ⟨⟨vp, rfl, XP⟩, hB⟩
          replace N1 := N1.below hB (Nat.le_refl _)
          replace NL := NL.below hB (Nat.le_refl _)
          replace NR := NR.below hB (Nat.le_refl _)
          have hb5 := hb4.trans (hB.mono hb4.size)
          clear hB hb4
          have C := Lib.hid (refOf_any N1 HN1.out)
          go_wp2_with fail
          refine C.out.mono ?_
          clear C
          rintro e w6 ⟨⟨vx, rfl, X1⟩, hB⟩
          replace N1 := N1.below hB (Nat.le_refl _)
          replace NL := NL.below hB (Nat.le_refl _)
          replace NR := NR.below hB (Nat.le_refl _)
          replace XP := XP.below hB (Nat.le_refl _)
          have hb6 := hb5.trans (hB.mono hb5.size)
          clear hB hb5
          have C := Lib.hid (refDiv_any X1 XP HN1.out HP.out HPP.out)
          go_wp2_with fail
          refine C.out.mono ?_
          clear C
          rintro e w7 ⟨⟨v5, v6, rfl, XQ, XR⟩, hB⟩
          replace N1 := N1.below hB (Nat.le_refl _)
          replace NL := NL.below hB (Nat.le_refl _)
          replace NR := NR.below hB (Nat.le_refl _)
          replace XP := XP.below hB (Nat.le_refl _)
          replace X1 := X1.below hB (Nat.le_refl _)
          have hb7 := hb6.trans (hB.mono hb6.size)
          clear hB hb6
          have C := Lib.hid (refMul_any X1 XP HN1.out HP.out)
          go_wp2_with fail
          refine C.out.mono ?_
          clear C
          rintro e w8 ⟨⟨v7, rfl, XM⟩, hB⟩
          replace N1 := N1.below hB (Nat.le_refl _)
          replace NL := NL.below hB (Nat.le_refl _)
          replace NR := NR.below hB (Nat.le_refl _)
          replace XP := XP.below hB (Nat.le_refl _)
          replace X1 := X1.below hB (Nat.le_refl _)
          replace XQ := XQ.below hB (Nat.le_refl _)
          have hb8 := hb7.trans (hB.mono hb7.size)
          clear hB hb7
          have C := Lib.hid (is_same NL XM HF.out)
          go_wp2_with fail
          refine C.out.mono ?_
          clear C
          rintro e w9 ⟨rfl, hB⟩
          replace N1 := N1.below hB (Nat.le_refl _)
          replace NL := NL.below hB (Nat.le_refl _)
          replace NR := NR.below hB (Nat.le_refl _)
          replace XP := XP.below hB (Nat.le_refl _)
          replace X1 := X1.below hB (Nat.le_refl _)
          replace XQ := XQ.below hB (Nat.le_refl _)
          replace XM := XM.below hB (Nat.le_refl _)
          have hb9 := hb8.trans (hB.mono hb8.size)
          clear hB hb8
          have C := Lib.hid (is_same NR XQ HQ.out)
          go_wp2_with fail
          refine C.out.mono ?_
          clear C
          rintro e w10 ⟨rfl, hB⟩
          replace N1 := N1.below hB (Nat.le_refl _)
          replace NL := NL.below hB (Nat.le_refl _)
          replace NR := NR.below hB (Nat.le_refl _)
          replace XP := XP.below hB (Nat.le_refl _)
          replace X1 := X1.below hB (Nat.le_refl _)
          replace XQ := XQ.below hB (Nat.le_refl _)
          replace XM := XM.below hB (Nat.le_refl _)
          have hb10 := hb9.trans (hB.mono hb9.size)
          clear hB hb9
          clear X1 XP XQ XM NR
          have C := Lib.hid (right_any NL HF.out n H63.out)
          go_wp2_with fail
          refine C.out.mono ?_
          clear C
          rintro e w11 ⟨⟨vb, rfl, NB⟩, hB⟩
          replace N1 := N1.below hB (Nat.le_refl _)
          replace NL := NL.below hB (Nat.le_refl _)
          have hb11 := hb10.trans (hB.mono hb10.size)
          clear hB hb10
          have C := Lib.hid (equal_same (NB.eq HBK.out) N1 HN1.out)
          go_wp2_with fail
          refine C.out.mono ?_
          clear C
          rintro e w12 ⟨rfl, hB⟩
          replace N1 := N1.below hB (Nat.le_refl _)
          replace NL := NL.below hB (Nat.le_refl _)
          replace NB := NB.below hB (Nat.le_refl _)
          have hb12 := hb11.trans (hB.mono hb11.size)
          clear hB hb11
          clear NB
          have C := Lib.hid (bits_nat NL HF.out HB2.out)
          go_wp2_with fail
          refine C.out.mono ?_
          clear C
          rintro e w13 ⟨rfl, hB⟩
          replace N1 := N1.below hB (Nat.le_refl _)
          replace NL := NL.below hB (Nat.le_refl _)
          have hb13 := hb12.trans (hB.mono hb12.size)
          clear hB hb12
          have C := Lib.hid (bits_nat N1 HN1.out HB.out)
          go_wp2_with fail
          refine C.out.mono ?_
          clear C
          rintro e w14 ⟨rfl, hB⟩
          replace N1 := N1.below hB (Nat.le_refl _)
          replace NL := NL.below hB (Nat.le_refl _)
          have hb14 := hb13.trans (hB.mono hb13.size)
          clear hB hb13
          have C := Lib.hid (tail_nat NL HF.out (HT.out.below hb14))
          go_wp2_with fail
          refine C.out.mono ?_
          clear C
          rintro e w15 ⟨⟨t1, rfl, hq1, hq2⟩, hB⟩
          replace N1 := N1.below hB (Nat.le_refl _)
          replace NL := NL.below hB (Nat.le_refl _)
          have hb15 := hb14.trans (hB.mono hb14.size)
          clear hB hb14
          have C := Lib.hid (tail_nat N1 HN1.out (HT.out.below hb15))
          go_wp2_with fail
          refine C.out.mono ?_
          clear C
          rintro e w16 ⟨⟨t2, rfl, hq3, hq4⟩, hB⟩
          replace N1 := N1.below hB (Nat.le_refl _)
          replace NL := NL.below hB (Nat.le_refl _)
          have hb16 := hb15.trans (hB.mono hb15.size)
          clear hB hb15
          have he : t1 = t2 + n := tail_uniq (by have := H0.out; have := HPP.out; exact Nat.ne_of_gt (Nat.mul_pos (by omega) (by omega))) hq2.out (tail_shl H0.out hq4.out)
          subst he
          clear hq2 hq4
          go_wp2
          go_ret
          exact ⟨rfl, hb16⟩

end Go.Proofs.YtphhaaofkckobaaDoor
