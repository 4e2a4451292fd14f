/-
  girdlelaw02.DigitsBack, as a walk: whatever the list and the number, it returns true.
-/
import Derived.Test.YtphhaaofkckobaaLparses
import Derived.Test.YtphhaaofkckobaaRdiv
namespace Go.Proofs.Ytphhaaofkckobaa
open Go.RowKit

theorem IsRef.nil0 {w : World} {v : Value} (h : IsRef w v 0) : ∃ p K, v = .slice p 0 K := by
  obtain ⟨ds, ⟨p, K, rfl, _⟩, hc, hv⟩ := h
  rw [hc.eq_nil (by decide) hv]
  exact ⟨p, K, rfl⟩
theorem IsRef.one {w : World} {v : Value} {n : Nat} (h : IsRef w v n) (h0 : 0 < n) (hn : n < 256) : ∃ b off K, v = .slice (some ⟨b, off, none⟩) 1 K ∧ w.cell? ⟨b, off, none⟩ = some (.int .i64 (n : Nat)) := by
  obtain ⟨ds, ⟨p, K, rfl, hat⟩, hc, hv⟩ := h
  have e : ds = [n] := Can.uniq (b := 256) (by decide) hc ⟨fun x hx => by simp at hx; omega, by simp [cut]; omega⟩ (by rw [hv]; simp [val])
  subst e
  obtain ⟨b, off, rfl, _, _, hx⟩ := hat.pos (by simp)
  exact ⟨b, off, K, rfl, hx 0 (by simp)⟩
theorem dv_div {l : List Nat} {j : Nat} (hj : j < l.length) (hd : DD l) : dv (l.take (j + 1)) / 10 = dv (l.take j) ∧ dv (l.take (j + 1)) % 10 = dg l j - 48 := by
  have h := hd.dg hj
  have hs : dv (l.take (j + 1)) = dv (l.take j) * 10 + (dg l j - 48) := by
    rw [List.take_succ_eq_append_getElem hj, dv_snoc, ← dg_lt hj]
  rw [hs]
  omega
theorem text_noughts {l : List Nat} {m : Nat} (n : Nat) (h : IsText l m) : DD (List.replicate n 48 ++ l) ∧ dv (List.replicate n 48 ++ l) = m := by
  refine ⟨(DD_zeros n).append h.1, ?_⟩
  rw [dv_append, dv_zeros, h.2.1]
  simp

set_option maxRecDepth 100000 in
set_option maxHeartbeats 8000000 in
theorem digitsBack_any (p : Option Addr) (K : Nat) (ds : List Nat) (w : World) (hat : At .u32 w p K ds) (hd : Dig 4294967296 ds) (k : Int) (hk0 : -9223372036854775808 ≤ k) (hk1 : k ≤ 9223372036854775807) :
    Calls Try.prog 3 #[.slice p ds.length K, .int .i64 k] w fun e w' => e = .returned (.bool true) ∧ Below w.heap.size w w' := by
  have WR := Lib.hid (writes_any w)
  have HD := Lib.hid hd
  obtain ⟨l, hl⟩ : ∃ l, ds.length = l := ⟨_, rfl⟩
  have HL := Lib.hid hl
  rw [hl]
  clear hd hl
  by_cases h30 : 30 < l
  · have h30I : (30 : Int) < (l : Int) := by omega
    have h30D : decide ((30 : Int) < (l : Int)) = true := decide_eq_true h30I
    clear h30 hk0 hk1
    go_enter Try.func3, Try.ntmps3
    have C := Lib.hid (WR.out)
    go_wp2_with fail
    refine C.out.mono ?_
    clear C
    rintro e w1 ⟨rfl, hB⟩
    have hb1 := hB
    clear hB
    go_wp2
    go_ret
    exact ⟨rfl, hb1⟩
  have h30I : ¬ (30 : Int) < (l : Int) := by omega
  have h30D : decide (30 < l) = false := decide_eq_false h30
  have HLl := Lib.hid (show l ≤ 30 by omega)
  clear h30
  by_cases hc : cut ds ≠ ds
  · have HC := Lib.hid hc
    clear hc hk0 hk1
    go_enter Try.func3, Try.ntmps3
    have C := Lib.hid (WR.out)
    go_wp2_with fail
    refine C.out.mono ?_
    clear C
    rintro e w1 ⟨rfl, hB⟩
    replace hat := hat.below hB (Nat.le_refl _)
    have hb1 := hB
    clear hB
    have C := Lib.hid (check_form p K l ds w1 hat HL.out (by have := HLl.out; omega) HC.out)
    go_wp2_with fail
    refine C.out.mono ?_
    clear C
    rintro e w2 ⟨rfl, hB⟩
    replace hat := hat.below hB (Nat.le_refl _)
    have hb2 := hb1.trans (hB.mono hb1.size)
    clear hB hb1
    go_wp2
    go_ret
    exact ⟨rfl, hb2⟩
  have HC := Lib.hid (show cut ds = ds from Decidable.not_not.1 hc)
  clear hc
  by_cases hneg : k < 0
  · clear hk0 hk1
    go_enter Try.func3, Try.ntmps3
    have C := Lib.hid (WR.out)
    go_wp2_with fail
    refine C.out.mono ?_
    clear C
    rintro e w1 ⟨rfl, hB⟩
    replace hat := hat.below hB (Nat.le_refl _)
    have hb1 := hB
    clear hB
    have C := Lib.hid (check_good p K l ds w1 hat HL.out (by have := HLl.out; omega) HC.out)
    go_wp2_with fail
    refine C.out.mono ?_
    clear C
    rintro e w2 ⟨rfl, hB⟩
    replace hat := hat.below hB (Nat.le_refl _)
    have hb2 := hb1.trans (hB.mono hb1.size)
    clear hB hb1
    go_wp2
    go_ret
    exact ⟨rfl, hb2⟩
  by_cases h50 : 50 < k
  · have hnD : decide (k < 0) = false := decide_eq_false hneg
    clear hk0 hk1
    go_enter Try.func3, Try.ntmps3
    have C := Lib.hid (WR.out)
    go_wp2_with fail
    refine C.out.mono ?_
    clear C
    rintro e w1 ⟨rfl, hB⟩
    replace hat := hat.below hB (Nat.le_refl _)
    have hb1 := hB
    clear hB
    have C := Lib.hid (check_good p K l ds w1 hat HL.out (by have := HLl.out; omega) HC.out)
    go_wp2_with fail
    refine C.out.mono ?_
    clear C
    rintro e w2 ⟨rfl, hB⟩
    replace hat := hat.below hB (Nat.le_refl _)
    have hb2 := hb1.trans (hB.mono hb1.size)
    clear hB hb1
    go_wp2
    go_ret
    exact ⟨rfl, hb2⟩
  obtain ⟨n, rfl⟩ : ∃ n : Nat, k = (n : Int) := ⟨k.toNat, by omega⟩
  have hn50 : n ≤ 50 := by omega
  have hI1 : ¬ (n : Int) < 0 := by omega
  have hI2 : ¬ (50 : Int) < (n : Int) := by omega
  have hI1D : decide ((n : Int) < 0) = false := decide_eq_false hI1
  have hI2D : decide (50 < (n : Int)) = false := decide_eq_false hI2
  have H50 := Lib.hid hn50
  clear hk0 hk1 hneg h50
  have HV : Hid (∀ W, At .u32 W p K ds → IsNat W (.slice p l K) (val 4294967296 ds)) := by
    intro W h
    rw [← HL.out]
    exact ⟨ds, ⟨p, K, rfl, h⟩, ⟨HD.out, HC.out⟩, rfl⟩
  have HM := Lib.hid (list_max HL.out HLl.out (by decide) HD.out)
  have HT := Lib.hid (list_tens HL.out HLl.out HD.out (b := 300) rfl)
  obtain ⟨m, hm⟩ : ∃ m, val 4294967296 ds = m := ⟨_, rfl⟩
  rw [hm] at HM HT HV
  have RP := Lib.hid (fun W => noughts_any n W (by omega))
  have hsz : (Lib.repeatL [48] n).length ≤ 50 := by rw [Lib.repeatL_length]; simp; omega
  clear hm hn50
  go_enter Try.func3, Try.ntmps3
  have C := Lib.hid (WR.out)
  go_wp2_with fail
  refine C.out.mono ?_
  clear C
  rintro e w1 ⟨rfl, hB⟩
  replace hat := hat.below hB (Nat.le_refl _)
  have hb1 := hB
  clear hB
  have C := Lib.hid (check_good p K l ds w1 hat HL.out (by have := HLl.out; omega) HC.out)
  go_wp2_with fail
  refine C.out.mono ?_
  clear C
  rintro e w2 ⟨rfl, hB⟩
  replace hat := hat.below hB (Nat.le_refl _)
  have hb2 := hb1.trans (hB.mono hb1.size)
  clear hB hb1
  have NA := HV.out _ hat
  clear hat
  have C := Lib.hid (text_any NA HM.out)
  go_wp2_with fail
  refine C.out.mono ?_
  clear C
  rintro e w3 ⟨⟨s, rfl, hs⟩, hB⟩
  replace NA := NA.below hB (Nat.le_refl _)
  have hb3 := hb2.trans (hB.mono hb2.size)
  clear hB hb2
  have HS := Lib.hid hs
  have hss : s.size ≤ 300 := by have := text_300 hs HT.out rfl; rwa [bs_len] at this
  have hs1 : 1 ≤ s.size := by have := hs.pos; rwa [bs_len] at this
  have hne : s.toList.isEmpty = false := by
    rw [ByteArray.toList_eq]
    cases hl : s.data.toList with
    | nil => exact absurd (show bs s = [] by unfold bs; rw [hl]; rfl) hs.2.2.1
    | cons _ _ => rfl
  have hne2 : ¬ s.toList = [] := by intro e; rw [e] at hne; cases hne
  have HPV := Lib.hid (text_noughts n hs)
  have hbx : bs (⟨(Lib.repeatL [48] n).toArray⟩ ++ s) = List.replicate n 48 ++ bs s := by rw [bs_append, bs_noughts]
  have PL := Lib.hid (fun W => parse_lit (⟨(Lib.repeatL [48] n).toArray⟩ ++ s) m W (by rw [hbx]; exact onlyB_pos HPV.out.1 (by simp [hs.2.2.1])) (by rw [← bs_len, hbx, List.length_append, bs_len]; simp; omega) (by rw [hbx]; exact HPV.out.2))
  have HSE := Lib.hid (show dv ((bs s).take s.size) = m by rw [List.take_of_length_le (by rw [bs_len]; exact Nat.le_refl _)]; exact hs.2.1)
  have hlead : 1 < s.size → ((s[0]'(by omega)).toNat : Int) ≠ 48 := fun h e => by
    have h2 := hs.2.2.2 (by rw [bs_len]; exact h)
    rw [bs_get s 0 (by omega)] at h2
    omega
  have HLD := Lib.hid hlead
  clear hs hbx hlead
  by_cases h1 : 1 < s.size
  · have h1I : (1 : Int) < (s.size : Int) := by omega
    have h0s : 0 < s.size := by omega
    have hlb : (((s[0]'h0s).toNat : Int) == 48) = false := beq_eq_false_iff_ne.2 (HLD.out h1)
    have CO := Lib.hid (refOf_any NA HM.out)
    go_wp2_with fail
    refine CO.out.mono ?_
    clear CO
    rintro e w4 ⟨⟨vd, rfl, hd⟩, hB4⟩
    have NA4 := NA.below hB4 (Nat.le_refl _)
    have hb4 := hb3.trans (hB4.mono hb3.size)
    have hd' : IsRef w4 vd (dv ((bs s).take s.size)) := hd.eq HSE.out.symm
    clear hd hB4 hne hne2 hlb h1 h1I
    go_wp2_with fail
    go_loopw [6, 7] (fun sd si wr => ∃ j : Nat, j ≤ s.size ∧ si = .int .i64 ((j : Int) - 1) ∧ IsRef wr sd (dv ((bs s).take j)) ∧ Below w4.heap.size w4 wr) (fun _ si _ => (intOf si + 1).toNat)
    case atStart => exact ⟨s.size, Nat.le_refl _, rfl, hd', Below.refl _ _⟩
    case round =>
      clear hd'
      obtain ⟨j, hj, rfl, hd, hB⟩ := hrel
      cases j with
      | zero =>
        have NA5 := NA4.below hB (Nat.le_refl _)
        have hb5 := hb4.trans (hB.mono hb4.size)
        obtain ⟨pd, Kd, rfl⟩ := (hd.eq (n := 0) rfl).nil0
        clear hd hB
        go_wp2_with fail
        refine (RP.out _).mono ?_
        rintro e w6 ⟨rfl, hB6⟩
        have NA6 := NA5.below hB6 (Nat.le_refl _)
        have hb6 := hb5.trans (hB6.mono hb5.size)
        clear hB6
        go_wp2_with fail
        refine (PL.out _).mono ?_
        rintro e w7 ⟨⟨vb, rfl, NB⟩, hB7⟩
        have NA7 := NA6.below hB7 (Nat.le_refl _)
        have hb7 := hb6.trans (hB7.mono hb6.size)
        have C := Lib.hid (equal_yes NA7 NB HM.out)
        clear hB7
        go_wp2_with fail
        refine C.out.mono ?_
        rintro e w8 ⟨rfl, hB8⟩
        go_wp2
        go_ret
        exact ⟨rfl, hb7.trans (hB8.mono hb7.size)⟩
      | succ t =>
        have htI : ((t + 1 : Nat) : Int) - 1 = (t : Int) := by omega
        rw [htI]
        have hlt : t < s.size := by omega
        have hltI : (t : Int) < (s.size : Int) := by omega
        obtain ⟨q1, q2⟩ := dv_div (j := t) (by rw [bs_len]; exact hlt) HS.out.1
        have hc := HS.out.1.dg (i := t) (by rw [bs_len]; exact hlt)
        rw [bs_get s t hlt] at q2 hc
        have HQ := Lib.hid (And.intro q1 q2)
        have hm1 : dv ((bs s).take (t + 1)) < maxN := dv_max (HS.out.1.take _) (by rw [List.length_take, bs_len]; omega)
        have hd2 := hd.alloc (.cells #[.int .i64 10] 3)
        have R10 := ref_new wr 10 (by decide) (by decide)
        have CD := Lib.hid (refDiv_any hd2 R10 hm1 (lt_maxN (by decide)) (by decide))
        have hBA := hB.alloc hB.size (.cells #[.int .i64 10] 3)
        obtain ⟨hc1, hc2⟩ := hc
        have hcI : (48 : Int) ≤ ((s[t]'hlt).toNat : Int) := by omega
        have hcI2 : ((s[t]'hlt).toNat : Int) ≤ 57 := by omega
        clear q1 q2 hm1 R10 hd hd2 htI hB
        go_wp2_with fail
        refine CD.out.mono ?_
        clear CD
        rintro e w5 ⟨⟨vq, vr, rfl, hq, hr⟩, hB5⟩
        have hB6 := hBA.trans (hB5.mono hBA.size)
        have hq := hq.eq HQ.out.1
        have hr := hr.eq HQ.out.2
        clear hBA hB5
        by_cases h48 : (s[t]'hlt).toNat = 48
        · obtain ⟨pr, Kr, rfl⟩ := (hr.eq (n := 0) (by omega)).nil0
          have hz : ((((s[t]'hlt).toNat : Int) - 48) != 0) = false := by rw [h48]; rfl
          clear h48 hr hc1 hc2
          go_wp2_with fail
          go_roundw
          case rel => exact ⟨t, by omega, rfl, hq, hB6⟩
          case measure => simp [intOf]
        · obtain ⟨br, orr, Kr, rfl, hcr⟩ := hr.one (by omega) (by omega)
          have hx : (((s[t]'hlt).toNat - 48 : Nat) : Int) = ((s[t]'hlt).toNat : Int) - 48 := by omega
          rw [hx] at hcr
          clear h48 hr hx hc1 hc2
          go_wp2_with fail
          go_roundw
          case rel => exact ⟨t, by omega, rfl, hq, hB6⟩
          case measure => simp [intOf]
  · have h1I : ¬ (1 : Int) < (s.size : Int) := by omega
    have h1D : decide (1 < s.size) = false := decide_eq_false h1
    have CO := Lib.hid (refOf_any NA HM.out)
    go_wp2_with fail
    refine CO.out.mono ?_
    clear CO
    rintro e w4 ⟨⟨vd, rfl, hd⟩, hB4⟩
    have NA4 := NA.below hB4 (Nat.le_refl _)
    have hb4 := hb3.trans (hB4.mono hb3.size)
    have hd' : IsRef w4 vd (dv ((bs s).take s.size)) := hd.eq HSE.out.symm
    clear hd hB4 hne hne2 h1 h1I h1D
    go_wp2_with fail
    go_loopw [6, 7] (fun sd si wr => ∃ j : Nat, j ≤ s.size ∧ si = .int .i64 ((j : Int) - 1) ∧ IsRef wr sd (dv ((bs s).take j)) ∧ Below w4.heap.size w4 wr) (fun _ si _ => (intOf si + 1).toNat)
    case atStart => exact ⟨s.size, Nat.le_refl _, rfl, hd', Below.refl _ _⟩
    case round =>
      clear hd'
      obtain ⟨j, hj, rfl, hd, hB⟩ := hrel
      cases j with
      | zero =>
        have NA5 := NA4.below hB (Nat.le_refl _)
        have hb5 := hb4.trans (hB.mono hb4.size)
        obtain ⟨pd, Kd, rfl⟩ := (hd.eq (n := 0) rfl).nil0
        clear hd hB
        go_wp2_with fail
        refine (RP.out _).mono ?_
        rintro e w6 ⟨rfl, hB6⟩
        have NA6 := NA5.below hB6 (Nat.le_refl _)
        have hb6 := hb5.trans (hB6.mono hb5.size)
        clear hB6
        go_wp2_with fail
        refine (PL.out _).mono ?_
        rintro e w7 ⟨⟨vb, rfl, NB⟩, hB7⟩
        have NA7 := NA6.below hB7 (Nat.le_refl _)
        have hb7 := hb6.trans (hB7.mono hb6.size)
        have C := Lib.hid (equal_yes NA7 NB HM.out)
        clear hB7
        go_wp2_with fail
        refine C.out.mono ?_
        rintro e w8 ⟨rfl, hB8⟩
        go_wp2
        go_ret
        exact ⟨rfl, hb7.trans (hB8.mono hb7.size)⟩
      | succ t =>
        have htI : ((t + 1 : Nat) : Int) - 1 = (t : Int) := by omega
        rw [htI]
        have hlt : t < s.size := by omega
        have hltI : (t : Int) < (s.size : Int) := by omega
        obtain ⟨q1, q2⟩ := dv_div (j := t) (by rw [bs_len]; exact hlt) HS.out.1
        have hc := HS.out.1.dg (i := t) (by rw [bs_len]; exact hlt)
        rw [bs_get s t hlt] at q2 hc
        have HQ := Lib.hid (And.intro q1 q2)
        have hm1 : dv ((bs s).take (t + 1)) < maxN := dv_max (HS.out.1.take _) (by rw [List.length_take, bs_len]; omega)
        have hd2 := hd.alloc (.cells #[.int .i64 10] 3)
        have R10 := ref_new wr 10 (by decide) (by decide)
        have CD := Lib.hid (refDiv_any hd2 R10 hm1 (lt_maxN (by decide)) (by decide))
        have hBA := hB.alloc hB.size (.cells #[.int .i64 10] 3)
        obtain ⟨hc1, hc2⟩ := hc
        have hcI : (48 : Int) ≤ ((s[t]'hlt).toNat : Int) := by omega
        have hcI2 : ((s[t]'hlt).toNat : Int) ≤ 57 := by omega
        clear q1 q2 hm1 R10 hd hd2 htI hB
        go_wp2_with fail
        refine CD.out.mono ?_
        clear CD
        rintro e w5 ⟨⟨vq, vr, rfl, hq, hr⟩, hB5⟩
        have hB6 := hBA.trans (hB5.mono hBA.size)
        have hq := hq.eq HQ.out.1
        have hr := hr.eq HQ.out.2
        clear hBA hB5
        by_cases h48 : (s[t]'hlt).toNat = 48
        · obtain ⟨pr, Kr, rfl⟩ := (hr.eq (n := 0) (by omega)).nil0
          have hz : ((((s[t]'hlt).toNat : Int) - 48) != 0) = false := by rw [h48]; rfl
          clear h48 hr hc1 hc2
          go_wp2_with fail
          go_roundw
          case rel => exact ⟨t, by omega, rfl, hq, hB6⟩
          case measure => simp [intOf]
        · obtain ⟨br, orr, Kr, rfl, hcr⟩ := hr.one (by omega) (by omega)
          have hx : (((s[t]'hlt).toNat - 48 : Nat) : Int) = ((s[t]'hlt).toNat : Int) - 48 := by omega
          rw [hx] at hcr
          clear h48 hr hx hc1 hc2
          go_wp2_with fail
          go_roundw
          case rel => exact ⟨t, by omega, rfl, hq, hB6⟩
          case measure => simp [intOf]

end Go.Proofs.Ytphhaaofkckobaa
