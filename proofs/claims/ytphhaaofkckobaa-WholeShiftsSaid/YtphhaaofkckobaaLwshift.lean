/-
  girdletop.WholeShifts, as a walk: whatever the list and the number, it returns true.
-/
import Derived.Test.YtphhaaofkckobaaLgcd
namespace Go.Proofs.Ytphhaaofkckobaa
open Go.RowKit

theorem list_20 {ds : List Nat} {l b : Nat} (hl : ds.length = l) (hk : l ≤ 20) (hd : Dig 4294967296 ds) (hb : b = 640) : val 4294967296 ds < 2 ^ b := by
  have h1 := val_lt hd
  have h2 := Nat.pow_le_pow_right (n := 4294967296) (by decide) (show ds.length ≤ 20 by omega)
  obtain ⟨c, hc⟩ : ∃ c : Nat, c = 20 := ⟨_, rfl⟩
  rw [← hc] at h2
  have h3 : 4294967296 ^ c = 2 ^ b := by rw [show b = 32 * c by omega, Nat.pow_mul]
  omega
theorem pow_max {m n a b c : Nat} (hm : m < 2 ^ a) (hn : n ≤ 2 ^ b) (hc : a + b ≤ c) (hcl : c = 16000) : m * n < maxN := by
  obtain ⟨q, hq⟩ : ∃ q : Nat, q = 32 * 512 := ⟨_, rfl⟩
  rw [maxN_two q 512 rfl hq]
  have h1 : m * n ≤ m * 2 ^ b := Nat.mul_le_mul_left m hn
  have h2 : m * 2 ^ b < 2 ^ a * 2 ^ b := Nat.mul_lt_mul_of_pos_right hm (Nat.two_pow_pos b)
  rw [← Nat.pow_add] at h2
  have h3 := Nat.pow_le_pow_right (n := 2) (by decide) (show a + b ≤ q by omega)
  omega
theorem ten_two {n b : Nat} (hn : 4 * n ≤ b) : 10 ^ n ≤ 2 ^ b := by
  have h1 := Nat.pow_le_pow_left (show 10 ≤ 2 ^ 4 by decide) n
  rw [← Nat.pow_mul] at h1
  exact Nat.le_trans h1 (Nat.pow_le_pow_right (by decide) hn)
theorem ten_five (n : Nat) : 10 ^ n / 2 ^ n = 5 ^ n := by
  rw [show (10 : Nat) = 5 * 2 from rfl, Nat.mul_pow, Nat.mul_div_cancel _ (Nat.two_pow_pos n)]
theorem five_ten (m n : Nat) : m * 5 ^ n * 2 ^ n = m * 10 ^ n := by
  rw [Nat.mul_assoc, ← Nat.mul_pow]

theorem power_any (n : Nat) (w : World) (hn : n ≤ 1000) : Calls Try.prog 28 #[.int .i64 n] w fun e w' => (∃ v, e = .returned v ∧ IsNat w' v (2 ^ n)) ∧ Below w.heap.size w w' := by
  have O1 := Lib.hid (show ∀ W, Calls Try.prog 25 #[.int .u64 1] W fun e w' => (∃ v, e = .returned v ∧ IsNat w' v 1) ∧ Below W.heap.size W w' from fun W => of_any 1 W (by decide))
  have HM := Lib.hid (show 1 * 2 ^ n < maxN from pow_max (m := 1) (n := 2 ^ n) (a := 1) (b := n) (by decide) (Nat.le_refl _) (show 1 + n ≤ 16000 by omega) rfl)
  have HN := Lib.hid hn
  clear hn
  go_enter Try.func28, Try.ntmps28
  go_wp2_with fail
  refine (O1.out _).mono ?_
  rintro e w1 ⟨⟨v1, rfl, N1⟩, hB⟩
  have hb1 := hB
  clear hB
  have C := Lib.hid (left_fit N1 (lt_maxN (by decide)) n (by have := HN.out; omega) HM.out)
  go_wp2_with fail
  refine C.out.mono ?_
  clear C
  rintro e w2 ⟨⟨v2, rfl, N2⟩, hB⟩
  replace N1 := N1.below hB (Nat.le_refl _)
  have hb2 := hb1.trans (hB.mono hb1.size)
  clear hB hb1
  go_wp2
  go_ret
  exact ⟨⟨_, rfl, N2.eq (Nat.one_mul _)⟩, hb2⟩

theorem text_five : IsText (bs ⟨#[53]⟩) 5 := ⟨by decide, by decide, by decide, by decide⟩
theorem text_none : IsText (bs ⟨#[48]⟩) 0 := ⟨by decide, by decide, by decide, by decide⟩

set_option maxRecDepth 100000 in
set_option maxHeartbeats 8000000 in
theorem wholeShifts_any (p : Option Addr) (K : Nat) (ds : List Nat) (w : World) (hat : At .u32 w p K ds) (hd : Dig 4294967296 ds) (k : Int) (hk0 : -9223372036854775808 ≤ k) (hk1 : k ≤ 9223372036854775807) :
    Calls Try.prog 9 #[.slice p ds.length K, .int .i64 k] w fun e w' => e = .returned (.bool true) ∧ Below w.heap.size w w' := by
  have O5 := Lib.hid (show ∀ W, Calls Try.prog 25 #[.int .u64 5] W fun e w' => (∃ v, e = .returned v ∧ IsNat w' v 5) ∧ Below W.heap.size W w' from fun W => of_any 5 W (by decide))
  have HD := Lib.hid hd
  obtain ⟨l, hl⟩ : ∃ l, ds.length = l := ⟨_, rfl⟩
  have HL := Lib.hid hl
  rw [hl]
  have T5 := Lib.hid (show ∀ W v, IsNat W v 5 → Calls Try.prog 12 #[v] W fun e w' => e = .returned (.string ⟨#[53]⟩) ∧ Below W.heap.size W w' from fun W v h => text_lit h (lt_maxN (by decide)) _ text_five)
  clear hd hl
  by_cases h20 : 20 < l
  · have h20I : (20 : Int) < (l : Int) := by omega
    have h20D : decide ((20 : Int) < (l : Int)) = true := decide_eq_true h20I
    clear h20 hk0 hk1
    go_enter Try.func9, Try.ntmps9
    go_wp2_with fail
    refine (O5.out _).mono ?_
    rintro e w1 ⟨⟨v5, rfl, N5⟩, hB⟩
    have hb1 := hB
    clear hB
    go_wp2_with fail
    refine (T5.out _ _ N5).mono ?_
    rintro e w2 ⟨rfl, hB⟩
    replace N5 := N5.below hB (Nat.le_refl _)
    have hb2 := hb1.trans (hB.mono hb1.size)
    clear hB hb1
    go_wp2
    go_ret
    exact ⟨rfl, hb2⟩
  have h20I : ¬ (20 : Int) < (l : Int) := by omega
  have h20D : decide (20 < l) = false := decide_eq_false h20
  have HLl := Lib.hid (show l ≤ 20 by omega)
  clear h20
  by_cases hc : cut ds ≠ ds
  · have HC := Lib.hid hc
    clear hc hk0 hk1
    go_enter Try.func9, Try.ntmps9
    go_wp2_with fail
    refine (O5.out _).mono ?_
    rintro e w1 ⟨⟨v5, rfl, N5⟩, hB⟩
    replace hat := hat.below hB (Nat.le_refl _)
    have hb1 := hB
    clear hB
    go_wp2_with fail
    refine (T5.out _ _ N5).mono ?_
    rintro e w2 ⟨rfl, hB⟩
    replace hat := hat.below hB (Nat.le_refl _)
    replace N5 := N5.below hB (Nat.le_refl _)
    have hb2 := hb1.trans (hB.mono hb1.size)
    clear hB hb1
    have C := Lib.hid (check_form p K l ds w2 hat HL.out (by have := HLl.out; omega) HC.out)
    go_wp2_with fail
    refine C.out.mono ?_
    clear C
    rintro e w3 ⟨rfl, hB⟩
    replace hat := hat.below hB (Nat.le_refl _)
    replace N5 := N5.below hB (Nat.le_refl _)
    have hb3 := hb2.trans (hB.mono hb2.size)
    clear hB hb2
    go_wp2
    go_ret
    exact ⟨rfl, hb3⟩
  have HC := Lib.hid (show cut ds = ds from Decidable.not_not.1 hc)
  clear hc
  by_cases hneg : k < 0
  · clear hk0 hk1
    go_enter Try.func9, Try.ntmps9
    go_wp2_with fail
    refine (O5.out _).mono ?_
    rintro e w1 ⟨⟨v5, rfl, N5⟩, hB⟩
    replace hat := hat.below hB (Nat.le_refl _)
    have hb1 := hB
    clear hB
    go_wp2_with fail
    refine (T5.out _ _ N5).mono ?_
    rintro e w2 ⟨rfl, hB⟩
    replace hat := hat.below hB (Nat.le_refl _)
    replace N5 := N5.below hB (Nat.le_refl _)
    have hb2 := hb1.trans (hB.mono hb1.size)
    clear hB hb1
    have C := Lib.hid (check_good p K l ds w2 hat HL.out (by have := HLl.out; omega) HC.out)
    go_wp2_with fail
    refine C.out.mono ?_
    clear C
    rintro e w3 ⟨rfl, hB⟩
    replace hat := hat.below hB (Nat.le_refl _)
    replace N5 := N5.below hB (Nat.le_refl _)
    have hb3 := hb2.trans (hB.mono hb2.size)
    clear hB hb2
    go_wp2
    go_ret
    exact ⟨rfl, hb3⟩
  by_cases h200 : 200 < k
  · have hnD : decide (k < 0) = false := decide_eq_false hneg
    clear hk0 hk1
    go_enter Try.func9, Try.ntmps9
    go_wp2_with fail
    refine (O5.out _).mono ?_
    rintro e w1 ⟨⟨v5, rfl, N5⟩, hB⟩
    replace hat := hat.below hB (Nat.le_refl _)
    have hb1 := hB
    clear hB
    go_wp2_with fail
    refine (T5.out _ _ N5).mono ?_
    rintro e w2 ⟨rfl, hB⟩
    replace hat := hat.below hB (Nat.le_refl _)
    replace N5 := N5.below hB (Nat.le_refl _)
    have hb2 := hb1.trans (hB.mono hb1.size)
    clear hB hb1
    have C := Lib.hid (check_good p K l ds w2 hat HL.out (by have := HLl.out; omega) HC.out)
    go_wp2_with fail
    refine C.out.mono ?_
    clear C
    rintro e w3 ⟨rfl, hB⟩
    replace hat := hat.below hB (Nat.le_refl _)
    replace N5 := N5.below hB (Nat.le_refl _)
    have hb3 := hb2.trans (hB.mono hb2.size)
    clear hB hb2
    go_wp2
    go_ret
    exact ⟨rfl, hb3⟩
  obtain ⟨n, rfl⟩ : ∃ n : Nat, k = (n : Int) := ⟨k.toNat, by omega⟩
  have hn200 : n ≤ 200 := by omega
  have hI1 : ¬ (n : Int) < 0 := by omega
  have hI2 : ¬ (200 : Int) < (n : Int) := by omega
  have hI1D : decide ((n : Int) < 0) = false := decide_eq_false hI1
  have hI2D : decide (200 < (n : Int)) = false := decide_eq_false hI2
  have H200 := Lib.hid hn200
  clear hk0 hk1 hneg h200
  obtain ⟨e0, he0⟩ : ∃ e : Nat, e = 640 := ⟨_, rfl⟩
  obtain ⟨e8, he8⟩ : ∃ e : Nat, e = 800 := ⟨_, rfl⟩
  have hM := list_20 HL.out HLl.out HD.out he0
  have HZ := Lib.hid (show val 4294967296 ds = 0 → l = 0 from fun h => by rw [← HL.out, Can.eq_nil (b := 4294967296) (by decide) ⟨HD.out, HC.out⟩ h]; rfl)
  have HZ2 := Lib.hid (show val 4294967296 ds ≠ 0 → l ≠ 0 from fun h e => h (by rw [List.eq_nil_of_length_eq_zero (show ds.length = 0 by rw [HL.out, e])]; rfl))
  have HV : Hid (∀ W, At .u32 W p K ds → IsNat W (.slice p l K) (val 4294967296 ds)) := by
    intro W h
    rw [← HL.out]
    exact ⟨ds, ⟨p, K, rfl, h⟩, ⟨HD.out, HC.out⟩, rfl⟩
  have H300 := Lib.hid (list_tens HL.out (by have := HLl.out; omega) HD.out (b := 300) rfl)
  obtain ⟨m, hm⟩ : ∃ m, val 4294967296 ds = m := ⟨_, rfl⟩
  rw [hm] at H300
  rw [hm] at hM HZ HZ2 HV
  have HT := Lib.hid (show 10 ^ n < maxN from ten_in (by omega))
  have H2 := Lib.hid (show 2 ^ n < maxN from Nat.lt_of_le_of_lt (Nat.pow_le_pow_left (by decide) n) HT.out)
  have H5 := Lib.hid (show 5 ^ n < maxN from Nat.lt_of_le_of_lt (Nat.pow_le_pow_left (by decide) n) HT.out)
  have HMX := Lib.hid (show m < maxN by have := pow_max (c := 16000) hM (show 1 ≤ 2 ^ 0 by decide) (by omega) rfl; rwa [Nat.mul_one] at this)
  have HP := Lib.hid (show m * 10 ^ n < maxN from pow_max (b := e8) (c := 16000) hM (ten_two (by omega)) (by omega) rfl)
  have HF := Lib.hid (show m * 5 ^ n < maxN from Nat.lt_of_le_of_lt (Nat.mul_le_mul_left m (Nat.pow_le_pow_left (by decide) n)) HP.out)
  have HL2 := Lib.hid (show m * 5 ^ n * 2 ^ n < maxN by rw [five_ten]; exact HP.out)
  have H0 := Lib.hid (Nat.two_pow_pos n)
  have HE := Lib.hid (cmpI_eq ((m * 10 ^ n : Nat) : Int))
  have RP := Lib.hid (fun W => noughts_any n W (by omega))
  have TK := Lib.hid (fun W => ten_ok n W (by omega) HT.out)
  have PW := Lib.hid (fun W => power_any n W (by omega))
  clear hm hM he0 he8 hn200
  go_enter Try.func9, Try.ntmps9
  go_wp2_with fail
  refine (O5.out _).mono ?_
  rintro e w1 ⟨⟨v5, rfl, N5⟩, hB⟩
  replace hat := hat.below hB (Nat.le_refl _)
  have hb1 := hB
  clear hB
  go_wp2_with fail
  refine (T5.out _ _ N5).mono ?_
  rintro e w2 ⟨rfl, hB⟩
  replace hat := hat.below hB (Nat.le_refl _)
  replace N5 := N5.below hB (Nat.le_refl _)
  have hb2 := hb1.trans (hB.mono hb1.size)
  clear hB hb1
  clear N5
  have C := Lib.hid (check_good p K l ds w2 hat HL.out (by have := HLl.out; omega) HC.out)
  go_wp2_with fail
  refine C.out.mono ?_
  clear C
  rintro e w3 ⟨rfl, hB⟩
  replace hat := hat.below hB (Nat.le_refl _)
  have hb3 := hb2.trans (hB.mono hb2.size)
  clear hB hb2
  have NA := HV.out _ hat
  clear hat
  go_wp2_with fail
  refine (TK.out _).mono ?_
  rintro e w4 ⟨⟨vt, rfl, NT⟩, hB⟩
  replace NA := NA.below hB (Nat.le_refl _)
  have hb4 := hb3.trans (hB.mono hb3.size)
  clear hB hb3
  have C := Lib.hid (mul_fit NA NT HMX.out HT.out HP.out)
  go_wp2_with fail
  refine C.out.mono ?_
  clear C
  rintro e w5 ⟨⟨vp, rfl, NP⟩, hB⟩
  replace NA := NA.below hB (Nat.le_refl _)
  replace NT := NT.below hB (Nat.le_refl _)
  have hb5 := hb4.trans (hB.mono hb4.size)
  clear hB hb4
  go_wp2_with fail
  refine (PW.out _).mono ?_
  rintro e w6 ⟨⟨vw, rfl, NW⟩, hB⟩
  replace NA := NA.below hB (Nat.le_refl _)
  replace NT := NT.below hB (Nat.le_refl _)
  replace NP := NP.below hB (Nat.le_refl _)
  have hb6 := hb5.trans (hB.mono hb5.size)
  clear hB hb5
  have C := Lib.hid (div_nat NT NW HT.out H2.out H0.out)
  go_wp2_with fail
  refine C.out.mono ?_
  clear C
  rintro e w7 ⟨⟨vf, vr, rfl, NF, NR⟩, hB⟩
  replace NA := NA.below hB (Nat.le_refl _)
  replace NT := NT.below hB (Nat.le_refl _)
  replace NP := NP.below hB (Nat.le_refl _)
  replace NW := NW.below hB (Nat.le_refl _)
  have hb7 := hb6.trans (hB.mono hb6.size)
  clear hB hb6
  replace NF := NF.eq (ten_five n)
  clear NT NW
  clear NR
  have C := Lib.hid (mul_fit NA NF HMX.out H5.out HF.out)
  go_wp2_with fail
  refine C.out.mono ?_
  clear C
  rintro e w8 ⟨⟨vq, rfl, NQ⟩, hB⟩
  replace NA := NA.below hB (Nat.le_refl _)
  replace NP := NP.below hB (Nat.le_refl _)
  replace NF := NF.below hB (Nat.le_refl _)
  have hb8 := hb7.trans (hB.mono hb7.size)
  clear hB hb7
  clear NF
  have C := Lib.hid (left_fit NQ HF.out n (by have := H200.out; omega) HL2.out)
  go_wp2_with fail
  refine C.out.mono ?_
  clear C
  rintro e w9 ⟨⟨vl, rfl, NL⟩, hB⟩
  replace NA := NA.below hB (Nat.le_refl _)
  replace NP := NP.below hB (Nat.le_refl _)
  replace NQ := NQ.below hB (Nat.le_refl _)
  have hb9 := hb8.trans (hB.mono hb8.size)
  clear hB hb8
  replace NL := NL.eq (five_ten m n)
  clear NQ
  have C := Lib.hid (text_any NA HMX.out)
  go_wp2_with fail
  refine C.out.mono ?_
  clear C
  rintro e w10 ⟨⟨s, rfl, hs⟩, hB⟩
  replace NA := NA.below hB (Nat.le_refl _)
  replace NP := NP.below hB (Nat.le_refl _)
  replace NL := NL.below hB (Nat.le_refl _)
  have hb10 := hb9.trans (hB.mono hb9.size)
  clear hB hb9
  have HS := Lib.hid hs
  have hss : s.size ≤ 300 := by have := text_300 hs H300.out rfl; rwa [bs_len] at this
  have hsz : (Lib.repeatL [48] n).length ≤ 200 := by rw [Lib.repeatL_length]; have := H200.out; simp; omega
  clear hs
  go_wp2_with fail
  refine (RP.out _).mono ?_
  rintro e w11 ⟨rfl, hB⟩
  replace NA := NA.below hB (Nat.le_refl _)
  replace NP := NP.below hB (Nat.le_refl _)
  replace NL := NL.below hB (Nat.le_refl _)
  have hb11 := hb10.trans (hB.mono hb10.size)
  clear hB hb10
  by_cases h0 : m = 0
  · have hl0 := HZ.out h0
    subst hl0
    have HP0 := Lib.hid (show m * 10 ^ n = 0 by rw [h0, Nat.zero_mul])
    clear h0
    go_wp2_with fail
    have C := Lib.hid (text_lit (NP.eq HP0.out) zero_max _ text_none)
    go_wp2_with fail
    refine C.out.mono ?_
    clear C
    rintro e w12 ⟨rfl, hB⟩
    replace NA := NA.below hB (Nat.le_refl _)
    replace NP := NP.below hB (Nat.le_refl _)
    replace NL := NL.below hB (Nat.le_refl _)
    have hb12 := hb11.trans (hB.mono hb11.size)
    clear hB hb11
    have C := Lib.hid (compare_cmp NP NL HP.out HP.out HE.out)
    go_wp2_with fail
    refine C.out.mono ?_
    clear C
    rintro e w13 ⟨rfl, hB⟩
    replace NA := NA.below hB (Nat.le_refl _)
    replace NP := NP.below hB (Nat.le_refl _)
    replace NL := NL.below hB (Nat.le_refl _)
    have hb13 := hb12.trans (hB.mono hb12.size)
    clear hB hb12
    go_wp2
    go_ret
    exact ⟨rfl, hb13⟩
  · have hl0 := HZ2.out h0
    have hl0b : ((l : Int) == 0) = false := beq_eq_false_iff_ne.2 (by omega)
    have HTX := Lib.hid (show IsText (bs (s ++ ⟨(Lib.repeatL [48] n).toArray⟩)) (m * 10 ^ n) by rw [bs_append, bs_noughts]; exact HS.out.tens h0 n)
    clear h0 hl0
    go_wp2_with fail
    have C := Lib.hid (text_lit NP HP.out _ HTX.out)
    go_wp2_with fail
    refine C.out.mono ?_
    clear C
    rintro e w12 ⟨rfl, hB⟩
    replace NA := NA.below hB (Nat.le_refl _)
    replace NP := NP.below hB (Nat.le_refl _)
    replace NL := NL.below hB (Nat.le_refl _)
    have hb12 := hb11.trans (hB.mono hb11.size)
    clear hB hb11
    have C := Lib.hid (compare_cmp NP NL HP.out HP.out HE.out)
    go_wp2_with fail
    refine C.out.mono ?_
    clear C
    rintro e w13 ⟨rfl, hB⟩
    replace NA := NA.below hB (Nat.le_refl _)
    replace NP := NP.below hB (Nat.le_refl _)
    replace NL := NL.below hB (Nat.le_refl _)
    have hb13 := hb12.trans (hB.mono hb12.size)
    clear hB hb12
    go_wp2
    go_ret
    exact ⟨rfl, hb13⟩

end Go.Proofs.Ytphhaaofkckobaa
