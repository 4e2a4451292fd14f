/-
  girdlelaw02.DigitsLong, as a walk: whatever the number and the digit, it returns true.
-/
import Derived.Test.YtphhaaofkckobaaLgcd
namespace Go.Proofs.Ytphhaaofkckobaa
open Go.RowKit

theorem repeatL_one (c : UInt8) : ∀ (n : Nat), (Lib.repeatL [c] n).map UInt8.toNat = List.replicate n c.toNat
  | 0 => rfl
  | n + 1 => by
    rw [Lib.repeatL, List.map_append, repeatL_one c n, List.replicate_succ]
    rfl
theorem bs_repeat (d n : Nat) (hd : d ≤ 9) : bs ⟨(Lib.repeatL [UInt8.ofNat (48 + d)] n).toArray⟩ = List.replicate n (48 + d) := by
  have h := repeatL_one (UInt8.ofNat (48 + d)) n
  have h2 : (UInt8.ofNat (48 + d)).toNat = 48 + d := by simp; omega
  rw [h2] at h
  exact h
theorem DD_repeat (d n : Nat) (hd : d ≤ 9) : DD (List.replicate n (48 + d)) := fun x hx => by simp at hx; omega
theorem dv_repeat (d n : Nat) (hn : 1 ≤ n) (h0 : d ≠ 0) : dv (List.replicate n (48 + d)) ≠ 0 := by
  obtain ⟨j, rfl⟩ : ∃ j, n = j + 1 := ⟨n - 1, by omega⟩
  rw [List.replicate_succ, dv_cons, List.length_replicate]
  have := Nat.mul_le_mul (show 1 ≤ 48 + d - 48 by omega) (Nat.one_le_pow j 10 (by decide))
  omega
theorem text_repeat (d n : Nat) (hd : d ≤ 9) (hn : 1 ≤ n) (h0 : d ≠ 0) : IsText (List.replicate n (48 + d)) (dv (List.replicate n (48 + d))) :=
  ⟨DD_repeat d n hd, rfl, fun e => by have := congrArg List.length e; simp at this; omega, fun _ => by
    obtain ⟨j, rfl⟩ : ∃ j, n = j + 1 := ⟨n - 1, by omega⟩
    rw [List.replicate_succ]
    show 48 + d ≠ 48
    omega⟩
theorem conv_one (d : Nat) (hd : d ≤ 9) (w : World) : (convert 42 9 (.slice (some ⟨w.heap.size, 0, none⟩) 1 1)).run Try.prog (w.alloc (.cells #[.int .u8 (48 + (d : Int))] 5)) = .ok (.string ⟨#[UInt8.ofNat (48 + d)]⟩) (w.alloc (.cells #[.int .u8 (48 + (d : Int))] 5)) := by
  exact run_convert_bytes_back (P := Try.prog) (w.alloc (.cells #[.int .u8 (48 + (d : Int))] 5)) 42 9 5 ⟨w.heap.size, 0, none⟩ 1 [UInt8.ofNat (48 + d)] Try.underlying42 Try.underlying5 Try.underlying9 (fun j hj => by
    have hj0 : j = 0 := by simpa using hj
    subst hj0
    have e : (⟨w.heap.size, 0, none⟩ : Addr).add 0 = ⟨w.heap.size, 0, none⟩ := by simp [Addr.add]
    rw [e, World.cell?_alloc_new]
    simp
    omega)
theorem repeat_any (d n : Nat) (w : World) (hn : n ≤ 100000) : Calls Try.prog 16 #[.string ⟨#[UInt8.ofNat (48 + d)]⟩, .int .i64 n] w fun e w' => e = .returned (.string ⟨(Lib.repeatL [UInt8.ofNat (48 + d)] n).toArray⟩) ∧ Below w.heap.size w w' :=
  Try.strings_Repeat ⟨#[UInt8.ofNat (48 + d)]⟩ n w (by omega) (by show 1 * n ≤ _; omega)

set_option maxRecDepth 100000 in
set_option maxHeartbeats 8000000 in
theorem digitsLong_any (w : World) (k : Int) (hk0 : -9223372036854775808 ≤ k) (hk1 : k ≤ 9223372036854775807) (d : Nat) (hd : d < 256) :
    Calls Try.prog 5 #[.int .i64 k, .int .u8 d] w fun e w' => e = .returned (.bool true) ∧ Below w.heap.size w w' := by
  have WR := Lib.hid (writes_any w)
  by_cases h1 : k < 1
  · have h1D : decide (k < 1) = true := decide_eq_true h1
    clear hk0 hk1
    go_enter Try.func5, Try.ntmps5
    have C := Lib.hid (WR.out)
    go_wp2_with fail
    refine C.out.mono ?_
    clear C
    rintro e w1 ⟨rfl, hB⟩
    have hb1 := hB
    clear hB
    go_wp2
    go_ret
    exact ⟨rfl, hb1⟩
  have h1D : decide (k < 1) = false := decide_eq_false h1
  by_cases h6 : 6000 < k
  · have h6D : decide (6000 < k) = true := decide_eq_true h6
    clear hk0 hk1
    go_enter Try.func5, Try.ntmps5
    have C := Lib.hid (WR.out)
    go_wp2_with fail
    refine C.out.mono ?_
    clear C
    rintro e w1 ⟨rfl, hB⟩
    have hb1 := hB
    clear hB
    go_wp2
    go_ret
    exact ⟨rfl, hb1⟩
  have h6D : decide (6000 < k) = false := decide_eq_false h6
  by_cases h9 : 9 < d
  · have h9I : (9 : Int) < (d : Int) := by omega
    have h9D : decide ((9 : Int) < (d : Int)) = true := decide_eq_true h9I
    clear hk0 hk1 h9
    go_enter Try.func5, Try.ntmps5
    have C := Lib.hid (WR.out)
    go_wp2_with fail
    refine C.out.mono ?_
    clear C
    rintro e w1 ⟨rfl, hB⟩
    have hb1 := hB
    clear hB
    go_wp2
    go_ret
    exact ⟨rfl, hb1⟩
  have h9I : ¬ (9 : Int) < (d : Int) := by omega
  have h9D : decide ((9 : Int) < (d : Int)) = false := decide_eq_false h9I
  obtain ⟨n, rfl⟩ : ∃ n : Nat, k = (n : Int) := ⟨k.toNat, by omega⟩
  have HD := Lib.hid (show d ≤ 9 by omega)
  have HN := Lib.hid (show 1 ≤ n ∧ n ≤ 6000 by omega)
  have hd9 : (d : Int) ≤ 9 := by omega
  have hb := bs_repeat d n (by omega)
  have hbl : (bs ⟨(Lib.repeatL [UInt8.ofNat (48 + d)] n).toArray⟩).length = n := by rw [hb]; simp
  have hsz : ByteArray.size ⟨(Lib.repeatL [UInt8.ofNat (48 + d)] n).toArray⟩ = n := by rw [← bs_len, hbl]
  have hon : onlyB (bs ⟨(Lib.repeatL [UInt8.ofNat (48 + d)] n).toArray⟩) = true := by
    rw [hb]; exact onlyB_pos (DD_repeat d n (by omega)) (fun e => by have := congrArg List.length e; simp at this; omega)
  obtain ⟨s, hs⟩ : ∃ s : ByteArray, (⟨(Lib.repeatL [UInt8.ofNat (48 + d)] n).toArray⟩ : ByteArray) = s := ⟨_, rfl⟩
  have RP : ∀ W, Calls Try.prog 16 #[.string ⟨#[UInt8.ofNat (48 + d)]⟩, .int .i64 n] W fun e w' => e = .returned (.string s) ∧ Below W.heap.size W w' := fun W => by
    have := repeat_any d n W (by omega)
    rwa [hs] at this
  rw [hs] at hb hsz hon
  have HRP := Lib.hid RP; have HB := Lib.hid hb; have HSZ := Lib.hid hsz; have HON := Lib.hid hon
  have CV := Lib.hid (fun W => conv_one d (by omega) W)
  obtain ⟨c1, hc1⟩ : ∃ c1 : UInt8, UInt8.ofNat (48 + d) = c1 := ⟨_, rfl⟩
  rw [hc1] at HRP CV
  clear hb hbl hsz hon hs RP hk0 hk1 h1 h6 h9 hc1
  by_cases h49 : 4900 < n
  · have h49I : (4900 : Int) < (n : Int) := by omega
    have PL := Lib.hid (fun W => parse_long s W HON.out (by rw [HSZ.out]; exact h49))
    clear h49
    go_enter Try.func5, Try.ntmps5
    have C := Lib.hid (WR.out)
    go_wp2_with fail
    refine C.out.mono ?_
    clear C
    rintro e w1 ⟨rfl, hB⟩
    have hb1 := hB
    clear hB
    have hcv := CV.out w1
    replace hb1 := hb1.alloc hb1.size (.cells #[.int .u8 (48 + (d : Int))] 5)
    go_wp2_with fail
    refine (HRP.out _).mono ?_
    rintro e w2 ⟨rfl, hB⟩
    have hb2 := hb1.trans (hB.mono hb1.size)
    clear hB hb1
    clear hcv
    go_wp2_with fail
    refine (PL.out _).mono ?_
    rintro e w3 ⟨rfl, hB⟩
    have hb3 := hb2.trans (hB.mono hb2.size)
    clear hB hb2
    go_wp2
    go_ret
    exact ⟨rfl, hb3⟩
  · have h49I : ¬ (4900 : Int) < (n : Int) := by omega
    obtain ⟨v, hv⟩ : ∃ v, dv (List.replicate n (48 + d)) = v := ⟨_, rfl⟩
    have PL := Lib.hid (fun W => parse_lit s v W HON.out (by rw [HSZ.out]; omega) (by rw [HB.out]; exact hv))
    have HV := Lib.hid (show v < maxN by rw [← hv]; exact dv_max (DD_repeat d n HD.out) (by simp; omega))
    by_cases h0 : d = 0
    · have hv0 : v = 0 := by
        rw [← hv, h0]
        exact dv_zeros n
      have hd0 : (((d : Nat) : Int) == 0) = true := by rw [h0]; rfl
      have HV0 := Lib.hid hv0
      clear h49 hv h0 hv0
      go_enter Try.func5, Try.ntmps5
      have C := Lib.hid (WR.out)
      go_wp2_with fail
      refine C.out.mono ?_
      clear C
      rintro e w1 ⟨rfl, hB⟩
      have hb1 := hB
      clear hB
      have hcv := CV.out w1
      replace hb1 := hb1.alloc hb1.size (.cells #[.int .u8 (48 + (d : Int))] 5)
      go_wp2_with fail
      refine (HRP.out _).mono ?_
      rintro e w2 ⟨rfl, hB⟩
      have hb2 := hb1.trans (hB.mono hb1.size)
      clear hB hb1
      clear hcv
      go_wp2_with fail
      refine (PL.out _).mono ?_
      rintro e w3 ⟨⟨va, rfl, NA⟩, hB⟩
      have hb3 := hb2.trans (hB.mono hb2.size)
      clear hB hb2
      obtain ⟨pa, Ka, rfl⟩ := (NA.eq HV0.out).nought
      have C := Lib.hid (check_zero_nat NA HV.out)
      go_wp2_with fail
      refine C.out.mono ?_
      clear C
      rintro e w4 ⟨rfl, hB⟩
      replace NA := NA.below hB (Nat.le_refl _)
      have hb4 := hb3.trans (hB.mono hb3.size)
      clear hB hb3
      go_wp2
      go_ret
      exact ⟨rfl, hb4⟩
    · have hv0 : v ≠ 0 := by rw [← hv]; exact dv_repeat d n HN.out.1 h0
      have hd0 : (((d : Nat) : Int) == 0) = false := beq_eq_false_iff_ne.2 (by omega)
      have HT := Lib.hid (show IsText (bs s) v by rw [HB.out, ← hv]; exact text_repeat d n HD.out HN.out.1 h0)
      have HV0 := Lib.hid hv0
      have hsI : (s.size : Int) = (n : Int) := by rw [HSZ.out]
      clear h49 hv h0 hv0
      go_enter Try.func5, Try.ntmps5
      have C := Lib.hid (WR.out)
      go_wp2_with fail
      refine C.out.mono ?_
      clear C
      rintro e w1 ⟨rfl, hB⟩
      have hb1 := hB
      clear hB
      have hcv := CV.out w1
      replace hb1 := hb1.alloc hb1.size (.cells #[.int .u8 (48 + (d : Int))] 5)
      go_wp2_with fail
      refine (HRP.out _).mono ?_
      rintro e w2 ⟨rfl, hB⟩
      have hb2 := hb1.trans (hB.mono hb1.size)
      clear hB hb1
      clear hcv
      go_wp2_with fail
      refine (PL.out _).mono ?_
      rintro e w3 ⟨⟨va, rfl, NA⟩, hB⟩
      have hb3 := hb2.trans (hB.mono hb2.size)
      clear hB hb2
      obtain ⟨pa, la, Ka, rfl, -, hla⟩ := NA.slice
      obtain ⟨hl1, hl2⟩ := hla HV0.out
      have C := Lib.hid (check_zero_nat NA HV.out)
      go_wp2_with fail
      refine C.out.mono ?_
      clear C
      rintro e w4 ⟨rfl, hB⟩
      replace NA := NA.below hB (Nat.le_refl _)
      have hb4 := hb3.trans (hB.mono hb3.size)
      clear hB hb3
      have C := Lib.hid (text_lit NA HV.out s HT.out)
      go_wp2_with fail
      refine C.out.mono ?_
      clear C
      rintro e w5 ⟨rfl, hB⟩
      replace NA := NA.below hB (Nat.le_refl _)
      have hb5 := hb4.trans (hB.mono hb4.size)
      clear hB hb4
      go_wp2
      go_ret
      exact ⟨rfl, hb5⟩

end Go.Proofs.Ytphhaaofkckobaa
