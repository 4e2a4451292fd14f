/-
  girdlelaw02.DigitsParses, as a walk: whatever the text, it returns true.
-/
import Derived.Test.YtphhaaofkckobaaDlaw
import Derived.Test.YtphhaaofkckobaaRmul
import Derived.Test.YtphhaaofkckobaaEqn
import Derived.Test.YtphhaaofkckobaaLgcd
namespace Go.Proofs.Ytphhaaofkckobaa
open Go.RowKit

theorem ref_new (w : World) (x : Nat) (h0 : 0 < x) (h : x < 256) : IsRef (w.alloc (.cells #[.int .i64 (x : Int)] 3)) (.slice (some ⟨w.heap.size, 0, none⟩) 1 1) x :=
  ⟨[x], nums_new .i64 w _ _ [x] 1 (by simp) (fun j hj => by
    have : j = 0 := by simpa using hj
    subst this
    rfl), ⟨fun y hy => by simp at hy; omega, by simp [cut]; omega⟩, by simp [val]⟩
theorem IsRef.alloc {w : World} {v : Value} {n : Nat} (h : IsRef w v n) (o : Obj) : IsRef (w.alloc o) v n := h.below ((Below.refl _ w).alloc (Nat.le_refl _) o) (Nat.le_refl _)

set_option maxRecDepth 100000 in
set_option maxHeartbeats 8000000 in
theorem digitsParses_any (w : World) (s : ByteArray) (_hs : s.size ≤ maxLen) :
    Calls Try.prog 4 #[.string s] w fun e w' => e = .returned (.bool true) ∧ Below w.heap.size w w' := by
  have WR := Lib.hid (writes_any w)
  clear _hs
  by_cases h300 : 300 < s.size
  · have h3I : (300 : Int) < (s.size : Int) := by omega
    clear h300
    go_enter Try.func4, Try.ntmps4
    have C := Lib.hid (WR.out)
    go_wp2_with fail
    refine C.out.mono ?_
    clear C
    rintro e w1 ⟨rfl, hB⟩
    have hb1 := hB
    clear hB
    go_wp2
    go_ret
    exact ⟨rfl, hb1⟩
  have h3I : ¬ (300 : Int) < (s.size : Int) := by omega
  have H300 := Lib.hid (show s.size ≤ 300 by omega)
  have hs300 : s.size ≤ 300 := by omega
  clear h300
  by_cases hon : onlyB (bs s) = true
  · have HD := Lib.hid (onlyB_out hon).1
    have hne : s.toList.isEmpty = false := by
      have h := (onlyB_out hon).2
      rw [ByteArray.toList_eq]
      cases hl : s.data.toList with
      | nil => exact absurd (show bs s = [] by unfold bs; rw [hl]; rfl) h
      | cons _ _ => rfl
    have hne2 : ¬ s.toList = [] := by intro e; rw [e] at hne; cases hne
    have PL := Lib.hid (fun W => parse_ok s W hon (by omega))
    clear hon
    go_enter Try.func4, Try.ntmps4
    have C := Lib.hid (WR.out)
    go_wp2_with fail
    refine C.out.mono ?_
    clear C
    rintro e w1 ⟨rfl, hB⟩
    have hb1 := hB
    clear hB
    go_wp2_with fail
    refine (PL.out _).mono ?_
    rintro e w2 ⟨⟨va, rfl, NA⟩, hB⟩
    have hb2 := hb1.trans (hB.mono hb1.size)
    clear hB hb1
    go_wp2_with fail
    clear hne hne2
    go_loopw [5, 6, 22] (fun sb sd si wr => ∃ i : Nat, sb = .bool false ∧ i ≤ s.size ∧ si = .int .i64 i ∧ IsRef wr sd (dv ((bs s).take i)) ∧ Below w2.heap.size w2 wr) (fun _ _ si _ => s.size - (intOf si).toNat)
    case atStart => exact ⟨0, rfl, by omega, rfl, ⟨[], Nums.nil _ _, Can.nil _, rfl⟩, Below.refl _ _⟩
    case round =>
      obtain ⟨i, rfl, hi, rfl, hd, hB⟩ := hrel
      by_cases hlt : i < s.size
      · have hc := HD.out.dg (i := i) (by rw [bs_len]; exact hlt)
        rw [bs_get s i hlt] at hc
        have hsn : dv ((bs s).take (i + 1)) = dv ((bs s).take i) * 10 + ((s[i]'hlt).toNat - 48) := by
          rw [List.take_succ_eq_append_getElem (by rw [bs_len]; exact hlt), dv_snoc, ← dg_lt (by rw [bs_len]; exact hlt), bs_get s i hlt]
        have hm1 : dv ((bs s).take i) < maxN := dv_max (HD.out.take _) (by rw [List.length_take, bs_len]; omega)
        have hm2 : dv ((bs s).take (i + 1)) < maxN := dv_max (HD.out.take _) (by rw [List.length_take, bs_len]; omega)
        have hltI : (i : Int) < (s.size : Int) := by omega
        have HS := Lib.hid hsn
        have HM1 := Lib.hid hm1; have HM2 := Lib.hid hm2
        have HC := Lib.hid hc
        have hlo : ¬ ((s[i]'hlt).toNat : Int) < 48 := by omega
        have hhi : ¬ (57 : Int) < ((s[i]'hlt).toNat : Int) := by omega
        have hloD : decide (((s[i]'hlt).toNat : Int) < 48) = false := decide_eq_false hlo
        have hhiD : decide ((57 : Int) < ((s[i]'hlt).toNat : Int)) = false := decide_eq_false hhi
        have R10 := Lib.hid (ref_new wr 10 (by decide) (by decide))
        have hd2 := hd.alloc (.cells #[.int .i64 10] 3)
        have CM := Lib.hid (refMul_any hd2 R10.out HM1.out (lt_maxN (by decide)))
        clear hsn hm1 hm2 hc
        go_wp2_with fail
        refine CM.out.mono ?_
        clear CM
        rintro e w3 ⟨⟨vd, rfl, hd3⟩, hB3⟩
        have hBA := hB.alloc hB.size (.cells #[.int .i64 10] 3)
        have hB3' := hBA.trans (hB3.mono hBA.size)
        clear R10 hd hd2 hB hB3 hBA
        by_cases h48 : 48 < (s[i]'hlt).toNat
        · have h48I : (48 : Int) < ((s[i]'hlt).toNat : Int) := by omega
          have hx : (((s[i]'hlt).toNat - 48 : Nat) : Int) = ((s[i]'hlt).toNat : Int) - 48 := by omega
          have RC := ref_new w3 ((s[i]'hlt).toNat - 48) (by omega) (by have := HC.out; omega)
          rw [hx] at RC
          have hd4 := hd3.alloc (.cells #[.int .i64 (((s[i]'hlt).toNat : Int) - 48)] 3)
          have CA := Lib.hid (refAdd_any hd4 RC (by have h1 := HS.out; have h2 := HM2.out; omega) (lt_maxN (by have := HC.out; omega)))
          have hcI : (48 : Int) ≤ ((s[i]'hlt).toNat : Int) := by omega
          have hcI2 : ((s[i]'hlt).toNat : Int) ≤ 57 := by omega
          clear h48 hx RC hlo hloD hhi hhiD
          go_wp2_with fail
          refine CA.out.mono ?_
          clear CA
          rintro e w4 ⟨⟨ve, rfl, hd5⟩, hB4⟩
          have hBA := hB3'.alloc hB3'.size (.cells #[.int .i64 (((s[i]'hlt).toNat : Int) - 48)] 3)
          have hB5 := hBA.trans (hB4.mono hBA.size)
          clear hB3' hB4 hBA hd3 hd4
          go_wp2_with fail
          go_roundw
          case rel => exact ⟨i + 1, rfl, by omega, by go_num, hd5.eq HS.out.symm, hB5⟩
          case measure => simp [intOf]; omega
        · have h48I : ¬ (48 : Int) < ((s[i]'hlt).toNat : Int) := by omega
          have HE := Lib.hid (show dv ((bs s).take i) * 10 = dv ((bs s).take (i + 1)) by rw [HS.out]; omega)
          clear h48 hlo hloD hhi hhiD
          go_wp2_with fail
          go_roundw
          case rel => exact ⟨i + 1, rfl, by omega, by go_num, hd3.eq HE.out, hB3'⟩
          case measure => simp [intOf]; omega
      · have hltI : ¬ (i : Int) < (s.size : Int) := by omega
        rw [List.take_of_length_le (by rw [bs_len]; omega)] at hd
        have HM := Lib.hid (dv_max HD.out (by rw [bs_len]; omega))
        have NA := NA.below hB (Nat.le_refl _)
        have hbw := hb2.trans (hB.mono hb2.size)
        have CB := Lib.hid (back_any hd HM.out)
        clear hlt hB hb2
        go_wp2_with fail
        refine CB.out.mono ?_
        clear CB
        rintro e w3 ⟨⟨vb, rfl, NB⟩, hB3⟩
        have NA := NA.below hB3 (Nat.le_refl _)
        have hb3 := hbw.trans (hB3.mono hbw.size)
        have CE := equal_nums NA NB HM.out
        rw [sameB_pos rfl] at CE
        have HCE := Lib.hid CE
        clear CE hB3 hbw hd
        go_wp2_with fail
        refine HCE.out.mono ?_
        clear HCE
        rintro e w4 ⟨rfl, hB4⟩
        go_wp2
        go_ret
        exact ⟨rfl, hb3.trans (hB4.mono hb3.size)⟩
  · have hof : onlyB (bs s) = false := by rw [← Bool.not_eq_true]; exact hon
    have PB := Lib.hid (fun W => parse_bad s W hof)
    have HO := Lib.hid hof
    obtain ⟨b0, hb0⟩ : ∃ b0, s.toList.isEmpty = b0 := ⟨_, rfl⟩
    have HB0 := Lib.hid hb0
    have hemp : b0 = true ↔ s.size = 0 := by
      rw [← hb0, ByteArray.toList_eq, List.isEmpty_iff]
      constructor
      · intro h
        rw [← bs_len]
        unfold bs
        rw [h]
        rfl
      · intro h
        have h2 : (bs s).length = 0 := by rw [bs_len]; exact h
        unfold bs at h2
        rw [List.length_map] at h2
        exact List.eq_nil_of_length_eq_zero h2
    have HEM := Lib.hid hemp
    clear hon hof hemp
    go_enter Try.func4, Try.ntmps4
    have C := Lib.hid (WR.out)
    go_wp2_with fail
    refine C.out.mono ?_
    clear C
    rintro e w1 ⟨rfl, hB⟩
    have hb1 := hB
    clear hB
    go_wp2_with fail
    refine (PB.out _).mono ?_
    rintro e w2 ⟨rfl, hB⟩
    have hb2 := hb1.trans (hB.mono hb1.size)
    clear hB hb1
    go_wp2_with fail
    clear hb0
    go_loopw [5, 6, 22] (fun sb sd si wr => ∃ i : Nat, sb = .bool b0 ∧ i ≤ s.size ∧ si = .int .i64 i ∧ Hid (DD ((bs s).take i)) ∧ IsRef wr sd (dv ((bs s).take i)) ∧ Below w2.heap.size w2 wr) (fun _ _ si _ => s.size - (intOf si).toNat)
    case atStart => exact ⟨0, rfl, by omega, rfl, fun x hx => by simp at hx, ⟨[], Nums.nil _ _, Can.nil _, rfl⟩, Below.refl _ _⟩
    case round =>
      obtain ⟨i, rfl, hi, rfl, HDT, hd, hB⟩ := hrel
      by_cases hlt : i < s.size
      · have hltI' : (i : Int) < (s.size : Int) := by omega
        by_cases hc : 48 ≤ (s[i]'hlt).toNat ∧ (s[i]'hlt).toNat ≤ 57
        · have HDS : Hid (DD ((bs s).take (i + 1))) := by
            show DD _
            rw [List.take_succ_eq_append_getElem (by rw [bs_len]; exact hlt)]
            refine HDT.out.append fun x hx => ?_
            rw [List.mem_singleton.1 hx, ← dg_lt (by rw [bs_len]; exact hlt), bs_get s i hlt]
            exact hc
          have hsn : dv ((bs s).take (i + 1)) = dv ((bs s).take i) * 10 + ((s[i]'hlt).toNat - 48) := by
            rw [List.take_succ_eq_append_getElem (by rw [bs_len]; exact hlt), dv_snoc, ← dg_lt (by rw [bs_len]; exact hlt), bs_get s i hlt]
          have hm1 : dv ((bs s).take i) < maxN := dv_max HDT.out (by rw [List.length_take, bs_len]; omega)
          have hm2 : dv ((bs s).take (i + 1)) < maxN := dv_max HDS.out (by rw [List.length_take, bs_len]; omega)
          have hltI : (i : Int) < (s.size : Int) := by omega
          have HS := Lib.hid hsn
          have HM1 := Lib.hid hm1; have HM2 := Lib.hid hm2
          have HC := Lib.hid hc
          have hlo : ¬ ((s[i]'hlt).toNat : Int) < 48 := by omega
          have hhi : ¬ (57 : Int) < ((s[i]'hlt).toNat : Int) := by omega
          have hloD : decide (((s[i]'hlt).toNat : Int) < 48) = false := decide_eq_false hlo
          have hhiD : decide ((57 : Int) < ((s[i]'hlt).toNat : Int)) = false := decide_eq_false hhi
          have R10 := Lib.hid (ref_new wr 10 (by decide) (by decide))
          have hd2 := hd.alloc (.cells #[.int .i64 10] 3)
          have CM := Lib.hid (refMul_any hd2 R10.out HM1.out (lt_maxN (by decide)))
          clear hsn hm1 hm2 hc
          go_wp2_with fail
          refine CM.out.mono ?_
          clear CM
          rintro e w3 ⟨⟨vd, rfl, hd3⟩, hB3⟩
          have hBA := hB.alloc hB.size (.cells #[.int .i64 10] 3)
          have hB3' := hBA.trans (hB3.mono hBA.size)
          clear R10 hd hd2 hB hB3 hBA
          by_cases h48 : 48 < (s[i]'hlt).toNat
          · have h48I : (48 : Int) < ((s[i]'hlt).toNat : Int) := by omega
            have hx : (((s[i]'hlt).toNat - 48 : Nat) : Int) = ((s[i]'hlt).toNat : Int) - 48 := by omega
            have RC := ref_new w3 ((s[i]'hlt).toNat - 48) (by omega) (by have := HC.out; omega)
            rw [hx] at RC
            have hd4 := hd3.alloc (.cells #[.int .i64 (((s[i]'hlt).toNat : Int) - 48)] 3)
            have CA := Lib.hid (refAdd_any hd4 RC (by have h1 := HS.out; have h2 := HM2.out; omega) (lt_maxN (by have := HC.out; omega)))
            have hcI : (48 : Int) ≤ ((s[i]'hlt).toNat : Int) := by omega
            have hcI2 : ((s[i]'hlt).toNat : Int) ≤ 57 := by omega
            clear h48 hx RC hlo hloD hhi hhiD
            go_wp2_with fail
            refine CA.out.mono ?_
            clear CA
            rintro e w4 ⟨⟨ve, rfl, hd5⟩, hB4⟩
            have hBA := hB3'.alloc hB3'.size (.cells #[.int .i64 (((s[i]'hlt).toNat : Int) - 48)] 3)
            have hB5 := hBA.trans (hB4.mono hBA.size)
            clear hB3' hB4 hBA hd3 hd4
            go_wp2_with fail
            go_roundw
            case rel => exact ⟨i + 1, rfl, by omega, by go_num, HDS.out, hd5.eq HS.out.symm, hB5⟩
            case measure => simp [intOf]; omega
          · have h48I : ¬ (48 : Int) < ((s[i]'hlt).toNat : Int) := by omega
            have HE := Lib.hid (show dv ((bs s).take i) * 10 = dv ((bs s).take (i + 1)) by rw [HS.out]; omega)
            clear h48 hlo hloD hhi hhiD
            go_wp2_with fail
            go_roundw
            case rel => exact ⟨i + 1, rfl, by omega, by go_num, HDS.out, hd3.eq HE.out, hB3'⟩
            case measure => simp [intOf]; omega
        · have hbw := hb2.trans (hB.mono hb2.size)
          by_cases hlow : (s[i]'hlt).toNat < 48
          · have hlo : ((s[i]'hlt).toNat : Int) < 48 := by omega
            have hloD : decide (((s[i]'hlt).toNat : Int) < 48) = true := decide_eq_true hlo
            clear hc hlow hd hB HDT
            go_wp2
            go_ret
            exact ⟨rfl, hbw⟩
          · have hlo : ¬ ((s[i]'hlt).toNat : Int) < 48 := by omega
            have hloD : decide (((s[i]'hlt).toNat : Int) < 48) = false := decide_eq_false hlo
            have hhi : (57 : Int) < ((s[i]'hlt).toNat : Int) := by omega
            have hhiD : decide ((57 : Int) < ((s[i]'hlt).toNat : Int)) = true := decide_eq_true hhi
            clear hc hlow hd hB HDT
            go_wp2
            go_ret
            exact ⟨rfl, hbw⟩
      · have hltI : ¬ (i : Int) < (s.size : Int) := by omega
        have hall : DD (bs s) := by have := HDT.out; rwa [List.take_of_length_le (by rw [bs_len]; omega)] at this
        have hb1 : b0 = true := by
          refine HEM.out.2 ?_
          rcases Nat.eq_zero_or_pos s.size with h | h
          · exact h
          · exfalso
            have h2 := HO.out
            rw [onlyB_pos hall (by intro e; have := bs_len s; rw [e] at this; simp at this; omega)] at h2
            cases h2
        subst hb1
        have hbw := hb2.trans (hB.mono hb2.size)
        clear hall hd hB HDT hlt
        go_wp2
        go_ret
        exact ⟨rfl, hbw⟩

end Go.Proofs.Ytphhaaofkckobaa
