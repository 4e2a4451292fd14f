/-
  girdlelaw02.DigitsPlaces, as a walk: whatever the list, it returns true.
-/
import Derived.Test.YtphhaaofkckobaaLtens
import Derived.Test.YtphhaaofkckobaaRsub
namespace Go.Proofs.Ytphhaaofkckobaa
open Go.RowKit

theorem check_good (p : Option Addr) (K l : Nat) (ds : List Nat) (w : World) (hat : At .u32 w p K ds) (hl : ds.length = l) (h512 : l ≤ 512) (hc : cut ds = ds) :
    Calls Try.prog 11 #[.slice p l K] w fun e w' => e = .returned (.int .i64 0) ∧ Below w.heap.size w w' := by
  subst hl
  have hz : checkOf ds = 0 := by unfold checkOf; rw [if_neg (by omega), if_neg (by rw [hc]; omega)]
  exact (check_any ⟨p, K, rfl, hat⟩ (by omega)).mono fun e w' h => ⟨h.1.trans (by rw [hz]; rfl), h.2⟩
theorem check_form (p : Option Addr) (K l : Nat) (ds : List Nat) (w : World) (hat : At .u32 w p K ds) (hl : ds.length = l) (h512 : l ≤ 512) (hc : cut ds ≠ ds) :
    Calls Try.prog 11 #[.slice p l K] w fun e w' => e = .returned (.int .i64 2) ∧ Below w.heap.size w w' := by
  subst hl
  have hz : checkOf ds = 2 := by
    unfold checkOf
    rw [if_neg (by omega), if_pos]
    rcases Nat.lt_or_ge (cut ds).length ds.length with h | h
    · exact h
    · exact absurd (cut_whole ds h) hc
  exact (check_any ⟨p, K, rfl, hat⟩ (by omega)).mono fun e w' h => ⟨h.1.trans (by rw [hz]; rfl), h.2⟩
theorem list_max {ds : List Nat} {l k : Nat} (hl : ds.length = l) (hk : l ≤ k) (h512 : k ≤ 512) (hd : Dig 4294967296 ds) : val 4294967296 ds < maxN := by
  have h1 := val_lt hd
  have h2 := Nat.pow_le_pow_right (n := 4294967296) (by decide) (show ds.length ≤ 512 by omega)
  unfold maxN
  omega
theorem b30 (a b : Nat) (ha : a = 30) (hb : b = 300) : 4294967296 ^ a ≤ 10 ^ b := by subst ha hb; decide +kernel
theorem list_tens {ds : List Nat} {l b : Nat} (hl : ds.length = l) (hk : l ≤ 30) (hd : Dig 4294967296 ds) (hb : b = 300) : val 4294967296 ds < 10 ^ b := by
  have h1 := val_lt hd
  have h2 := Nat.pow_le_pow_right (n := 4294967296) (by decide) (show ds.length ≤ 30 by omega)
  have h3 := b30 30 b rfl hb
  omega
theorem text_300 {s : List Nat} {m b : Nat} (h : IsText s m) (hm : m < 10 ^ b) (hb : b = 300) : s.length ≤ 300 := by
  rcases Nat.lt_or_ge 300 s.length with h1 | h1
  · exfalso
    have h2 := h.low (by omega)
    have h3 := (Nat.pow_lt_pow_iff_right (a := 10) (by decide)).1 (Nat.lt_of_le_of_lt h2 hm)
    omega
  · exact h1
theorem compare_cmp {va vb : Value} {m n : Nat} {w : World} (ha : IsNat w va m) (hb : IsNat w vb n) (hm : m < maxN) (hn : n < maxN) {c : Int} (hc : cmpI m n = c) :
    Calls Try.prog 27 #[va, vb] w fun e w' => e = .returned (.int .i64 c) ∧ Below w.heap.size w w' := compare_nat ha hb hm hn hc

set_option maxRecDepth 100000 in
set_option maxHeartbeats 4000000 in
theorem digitsPlaces_any (p : Option Addr) (K : Nat) (ds : List Nat) (w : World) (hat : At .u32 w p K ds) (hd : Dig 4294967296 ds) :
    Calls Try.prog 8 #[.slice p ds.length K] w fun e w' => e = .returned (.bool true) ∧ Below w.heap.size w w' := by
  have WR := Lib.hid (writes_any w)
  have HD := Lib.hid hd
  obtain ⟨l, hl⟩ : ∃ l, ds.length = l := ⟨_, rfl⟩
  have HL := Lib.hid hl
  rw [hl]
  clear hd hl
  by_cases h30 : 30 < l
  · have h30I : (30 : Int) < (l : Int) := by omega
    have h30D : decide ((30 : Int) < (l : Int)) = true := decide_eq_true h30I
    clear h30
    go_enter Try.func8, Try.ntmps8
    have C := Lib.hid (WR.out)
    go_wp2_with fail
    refine C.out.mono ?_
    clear C
    rintro e w1 ⟨rfl, hB⟩
    have hb1 := hB
    clear hB
    go_wp2
    go_ret
    exact ⟨rfl, hb1⟩
  · have h30I : ¬ (30 : Int) < (l : Int) := by omega
    have h30D : decide (30 < l) = false := decide_eq_false h30
    have HLl := Lib.hid (show l ≤ 30 by omega)
    clear h30
    by_cases hc : cut ds = ds
    · have HC := Lib.hid hc
      clear hc
      go_enter Try.func8, Try.ntmps8
      have C := Lib.hid (WR.out)
      go_wp2_with fail
      refine C.out.mono ?_
      clear C
      rintro e w1 ⟨rfl, hB⟩
      replace hat := hat.below hB (Nat.le_refl _)
      have hb1 := hB
      clear hB
      have C := Lib.hid (check_good p K l ds w1 hat HL.out (by have := HLl.out; omega) HC.out)
      go_wp2_with fail
      refine C.out.mono ?_
      clear C
      rintro e w2 ⟨rfl, hB⟩
      replace hat := hat.below hB (Nat.le_refl _)
      have hb2 := hb1.trans (hB.mono hb1.size)
      clear hB hb1
      have N1 : IsNat w2 (.slice p l K) (val 4294967296 ds) := by rw [← HL.out]; exact ⟨ds, ⟨p, K, rfl, hat⟩, ⟨HD.out, HC.out⟩, rfl⟩
      have HM := Lib.hid (list_max HL.out HLl.out (by decide) HD.out)
      have HT := Lib.hid (list_tens HL.out HLl.out HD.out (b := 300) rfl)
      have HZ := Lib.hid (show val 4294967296 ds = 0 → l = 0 from fun h => by rw [← HL.out, Can.eq_nil (b := 4294967296) (by decide) ⟨HD.out, HC.out⟩ h]; rfl)
      obtain ⟨m, hm⟩ : ∃ m, val 4294967296 ds = m := ⟨_, rfl⟩
      rw [hm] at N1 HM HT HZ
      clear hm
      clear hat
      have C := Lib.hid (text_any N1 HM.out)
      go_wp2_with fail
      refine C.out.mono ?_
      clear C
      rintro e w3 ⟨⟨s, rfl, hs⟩, hB⟩
      replace N1 := N1.below hB (Nat.le_refl _)
      have hb3 := hb2.trans (hB.mono hb2.size)
      clear hB hb2
      have hlen := text_300 hs HT.out rfl
      rw [bs_len] at hlen
      have HS := Lib.hid hs
      obtain ⟨n, hn⟩ : ∃ n, s.size = n := ⟨_, rfl⟩
      have HNN := Lib.hid hn
      rw [hn] at hlen
      have hpos : 1 ≤ n := by have := hs.pos; rw [bs_len] at this; omega
      have hhigh : m < 10 ^ n := by have := hs.high; rwa [bs_len, hn] at this
      obtain ⟨u, rfl⟩ : ∃ u, n = u + 1 := ⟨n - 1, by omega⟩
      have hlow : 0 < u → 10 ^ u ≤ m := fun h => by have := hs.low (by rw [bs_len]; omega); rwa [bs_len, hn, Nat.add_sub_cancel] at this
      have HH := Lib.hid (And.intro hhigh hlow)
      have hsI : (s.size : Int) = (u : Int) + 1 := by omega
      have M1 := Lib.hid (ten_in (n := u + 1) (by omega))
      have M2 := Lib.hid (ten_in (n := u) (by omega))
      have TA : ∀ W, Calls Try.prog 26 #[.int .i64 ((u : Int) + 1)] W fun e w' => (∃ v, e = .returned (.tuple #[v, .int .i64 0]) ∧ IsNat w' v (10 ^ (u + 1))) ∧ Below W.heap.size W w' := fun W => ten_ok (u + 1) W (by omega) M1.out
      have TB := Lib.hid (fun W => ten_ok u W (by omega) M2.out)
      have HTA := Lib.hid TA
      clear hs hn hpos hhigh hlow TA
      have hu : u ≤ 299 := by omega
      go_wp2_with fail
      refine (HTA.out _).mono ?_
      rintro e w4 ⟨⟨vh, rfl, NH⟩, hB⟩
      replace N1 := N1.below hB (Nat.le_refl _)
      have hb4 := hb3.trans (hB.mono hb3.size)
      clear hB hb3
      clear hsI
      go_wp2_with fail
      refine (TB.out _).mono ?_
      rintro e w5 ⟨⟨vl, rfl, NL⟩, hB⟩
      replace N1 := N1.below hB (Nat.le_refl _)
      replace NH := NH.below hB (Nat.le_refl _)
      have hb5 := hb4.trans (hB.mono hb4.size)
      clear hB hb4
      have hc1 := Lib.hid (cmpI_lt (a := (m : Int)) (b := ((10 ^ (u + 1) : Nat) : Int)) (by have := HH.out.1; omega))
      have C := Lib.hid (compare_cmp N1 NH HM.out M1.out hc1.out)
      go_wp2_with fail
      refine C.out.mono ?_
      clear C
      rintro e w6 ⟨rfl, hB⟩
      replace N1 := N1.below hB (Nat.le_refl _)
      replace NH := NH.below hB (Nat.le_refl _)
      replace NL := NL.below hB (Nat.le_refl _)
      have hb6 := hb5.trans (hB.mono hb5.size)
      clear hB hb5
      by_cases hge : 10 ^ u ≤ m
      · obtain ⟨c, hcc⟩ : ∃ c, cmpI (m : Int) ((10 ^ u : Nat) : Int) = c := ⟨_, rfl⟩
        have hc0 : 0 ≤ c := by rw [← hcc]; exact cmpI_ge (by omega)
        have HCC := Lib.hid hcc
        clear hge hcc
        have C := Lib.hid (compare_cmp N1 NL HM.out M2.out HCC.out)
        go_wp2_with fail
        refine C.out.mono ?_
        clear C
        rintro e w7 ⟨rfl, hB⟩
        replace N1 := N1.below hB (Nat.le_refl _)
        replace NH := NH.below hB (Nat.le_refl _)
        replace NL := NL.below hB (Nat.le_refl _)
        have hb7 := hb6.trans (hB.mono hb6.size)
        clear hB hb6
        go_wp2
        go_ret
        exact ⟨rfl, hb7⟩
      · have hu0 : u = 0 := by
          rcases Nat.eq_zero_or_pos u with h | h
          · exact h
          · exact absurd (HH.out.2 h) hge
        subst hu0
        have hm0 : m = 0 := by rw [Nat.pow_zero] at hge; omega
        have hl0 := HZ.out hm0
        subst hl0
        have hcl := Lib.hid (cmpI_lt (a := (m : Int)) (b := ((10 ^ 0 : Nat) : Int)) (by rw [hm0]; decide))
        clear hge hm0
        have C := Lib.hid (compare_cmp N1 NL HM.out M2.out hcl.out)
        go_wp2_with fail
        refine C.out.mono ?_
        clear C
        rintro e w7 ⟨rfl, hB⟩
        replace N1 := N1.below hB (Nat.le_refl _)
        replace NH := NH.below hB (Nat.le_refl _)
        replace NL := NL.below hB (Nat.le_refl _)
        have hb7 := hb6.trans (hB.mono hb6.size)
        clear hB hb6
        go_wp2
        go_ret
        exact ⟨rfl, hb7⟩
    · have HC := Lib.hid hc
      clear hc
      go_enter Try.func8, Try.ntmps8
      have C := Lib.hid (WR.out)
      go_wp2_with fail
      refine C.out.mono ?_
      clear C
      rintro e w1 ⟨rfl, hB⟩
      replace hat := hat.below hB (Nat.le_refl _)
      have hb1 := hB
      clear hB
      have C := Lib.hid (check_form p K l ds w1 hat HL.out (by have := HLl.out; omega) HC.out)
      go_wp2_with fail
      refine C.out.mono ?_
      clear C
      rintro e w2 ⟨rfl, hB⟩
      replace hat := hat.below hB (Nat.le_refl _)
      have hb2 := hb1.trans (hB.mono hb1.size)
      clear hB hb1
      go_wp2
      go_ret
      exact ⟨rfl, hb2⟩

end Go.Proofs.Ytphhaaofkckobaa
