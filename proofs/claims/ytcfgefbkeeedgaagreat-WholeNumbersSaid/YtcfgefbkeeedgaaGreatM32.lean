/-
  What the statement stands on.
-/
import Derived.Test.YtcfgefbkeeedgaaGreatM16
import Derived.Test.YtcfgefbkeeedgaaGreatM31
namespace Go.Proofs.YtcfgefbkeeedgaaGreat
open Go.RowKit
theorem bs_extract (s : ByteArray) (a b : Nat) : bs (s.extract a b) = ((bs s).drop a).take (b - a) := by
  unfold bs
  rw [Lib.extract_data]
  simp [List.map_take, List.map_drop]
theorem ten_max (a b c : Nat) (ha : a = 4900) (hb : b = 49) (hc : c = 100) : 10 ^ a < maxN := by
  obtain ⟨q, hq⟩ : ∃ q : Nat, q = 32 * 512 := ⟨_, rfl⟩
  have hbc : a = b * c := by rw [ha, hb, hc]
  rw [maxN_two q 512 rfl hq, hbc, Nat.pow_mul]
  have h1 : 10 ^ b ≤ 2 ^ 163 := by subst hb; decide
  have h2 := Nat.pow_le_pow_left h1 c
  have h4 : (2 ^ 163) ^ c = 2 ^ (163 * c) := (Nat.pow_mul 2 163 c).symm
  rw [h4] at h2
  have h3 : 163 * c < q := by rw [hc, hq]; decide
  exact Nat.lt_of_le_of_lt h2 (Nat.pow_lt_pow_right (by decide) h3)
theorem dv_max {l : List Nat} (h : DD l) (hl : l.length ≤ 4900) : dv l < maxN := by
  obtain ⟨a, ha⟩ : ∃ a : Nat, a = 4900 := ⟨_, rfl⟩
  have h1 := dv_lt h
  have h2 := Nat.pow_le_pow_right (n := 10) (by decide) (show l.length ≤ a by omega)
  have h3 := ten_max a 49 100 ha rfl rfl
  omega
set_option maxRecDepth 100000 in
set_option maxHeartbeats 1000000 in
theorem parse_bad (s : ByteArray) (w : World) (h : onlyB (bs s) = false) :
    Calls Tryz.prog 69 #[.string s] w fun e w' => e = .returned (.tuple #[.slice none 0 0, .int .i64 2]) ∧ Below w.heap.size w w' := by
  have C := onlyDigits_any s w
  rw [h] at C
  have HC := Lib.hid C
  clear C h
  go_enter Tryz.func69, Tryz.ntmps69
  go_wp2_with fail
  refine HC.out.mono ?_
  clear HC
  rintro e w1 ⟨rfl, hB⟩
  go_wp2
  go_ret2
  exact ⟨rfl, hB⟩
set_option maxRecDepth 100000 in
set_option maxHeartbeats 2000000 in
theorem parse_ok (s : ByteArray) (w : World) (h : onlyB (bs s) = true) (hl : s.size ≤ 4900) :
    Calls Tryz.prog 69 #[.string s] w fun e w' => (∃ v, e = .returned (.tuple #[v, .int .i64 0]) ∧ IsNat w' v (dv (bs s))) ∧ Below w.heap.size w w' := by
  have C := onlyDigits_any s w
  rw [h] at C
  have HC := Lib.hid C
  have HD := Lib.hid (onlyB_out h).1
  obtain ⟨r, hr⟩ : ∃ r, s.size % 18 = r := ⟨_, rfl⟩
  obtain ⟨q, hq⟩ : ∃ q, s.size / 18 = q := ⟨_, rfl⟩
  have hrI : (s.size : Int) % 18 = (r : Int) := by omega
  have hqI : (s.size : Int) / 18 = (q : Int) := by omega
  have hrl : r ≤ s.size := by omega
  have hr18 : r ≤ 17 := by omega
  have HQ := Lib.hid (show r + 18 * q = s.size by omega)
  have hql : q ≤ 273 := by omega
  clear C h hr hq
  go_enter Tryz.func69, Tryz.ntmps69
  go_wp2_with fail
  refine HC.out.mono ?_
  clear HC
  rintro e w1 ⟨rfl, hB1⟩
  have hx1 : bs (s.extract 0 r) = (bs s).take r := by rw [bs_extract]; simp
  have hx2 : (s.extract 0 r).size = r := by rw [← bs_len, hx1, List.length_take, bs_len]; omega
  have C := readBlock_any (s.extract 0 r) w1 (by rw [hx1]; exact HD.out.take _) (by omega)
  rw [hx1] at C
  have HC := Lib.hid C
  have hlt : dv ((bs s).take r) < 18446744073709551616 := by
    have h1 := dv_lt (HD.out.take r)
    have h2 := Nat.pow_le_pow_right (n := 10) (by decide) (show ((bs s).take r).length ≤ 17 by rw [List.length_take, bs_len]; omega)
    have h3 : (10 : Nat) ^ 17 = 100000000000000000 := by decide
    omega
  have HLT := Lib.hid hlt
  clear hx1 hx2 C hlt; go_wp2_with fail
  refine HC.out.mono ?_
  clear HC
  rintro e w2 ⟨rfl, hB2⟩
  have hb2 := hB1.trans (hB2.mono hB1.size)
  have C := Lib.hid (fun W => of_any _ W HLT.out)
  clear hB1 hB2; go_wp2_with fail
  refine (C.out _).mono ?_
  clear C
  rintro e w3 ⟨⟨v3, rfl, n3⟩, hB3⟩
  have hb3 := hb2.trans (hB3.mono hb2.size)
  clear hb2 hB3; go_wp2_with fail
  go_loopw [5, 28] (fun sa sk wr => ∃ k : Nat, k ≤ q ∧ sk = .int .i64 k ∧ IsNat wr sa (dv ((bs s).take (r + 18 * k))) ∧ Below w.heap.size w wr) (fun _ sk _ => q - (intOf sk).toNat)
  case atStart => exact ⟨0, by omega, rfl, n3, hb3⟩
  case round =>
    clear n3 hb3
    obtain ⟨k, hk, rfl, na, hB⟩ := hrel
    by_cases hlk : k < q
    · have hkI : (k : Int) < (q : Int) := by omega
      have hk273 : (k : Int) ≤ 273 := by omega
      have hle : r + 18 * k + 18 ≤ s.size := by have := HQ.out; omega
      have hleI : (r : Int) + (k : Int) * 18 + 18 ≤ (s.size : Int) := by omega
      have hsl : ∀ W, (Instr.slice 9 (.string s) (some (.int .i64 ((r : Int) + (k : Int) * 18))) (some (.int .i64 ((r : Int) + (k : Int) * 18 + 18))) none).run Tryz.prog W = .ok (.string (s.extract (r + 18 * k) (r + 18 * k + 18))) W := fun W => by
        rw [run_slice_string (P := Tryz.prog) W 9 s .i64 .i64 ((r : Int) + (k : Int) * 18) ((r : Int) + (k : Int) * 18 + 18) Tryz.underlying9 (by omega) (by omega) hleI]
        rw [show ((r : Int) + (k : Int) * 18).toNat = r + 18 * k by omega, show ((r : Int) + (k : Int) * 18 + 18).toNat = r + 18 * k + 18 by omega]
      have hx1 : bs (s.extract (r + 18 * k) (r + 18 * k + 18)) = ((bs s).drop (r + 18 * k)).take 18 := by rw [bs_extract, Nat.add_sub_cancel_left]
      have hxl : (((bs s).drop (r + 18 * k)).take 18).length = 18 := by rw [List.length_take, List.length_drop, bs_len]; omega
      have hx2 : (s.extract (r + 18 * k) (r + 18 * k + 18)).size = 18 := by rw [← bs_len, hx1, hxl]
      have C : ∀ W, Calls Tryz.prog 93 #[.string (s.extract (r + 18 * k) (r + 18 * k + 18))] W fun e w' => e = .returned (.int .u64 (dv (((bs s).drop (r + 18 * k)).take 18) : Nat)) ∧ Below W.heap.size W w' := fun W => by
        have := readBlock_any (s.extract (r + 18 * k) (r + 18 * k + 18)) W (by rw [hx1]; exact (HD.out.drop _).take _) (by omega)
        rwa [hx1] at this
      have HC := Lib.hid C
      have hv : dv ((bs s).take (r + 18 * k)) * blk + dv (((bs s).drop (r + 18 * k)).take 18) = dv ((bs s).take (r + 18 * (k + 1))) := by
        rw [show r + 18 * (k + 1) = (r + 18 * k) + 18 by omega, List.take_add (i := r + 18 * k), dv_append, hxl, blk_eq]
      have hlt : dv (((bs s).drop (r + 18 * k)).take 18) < 18446744073709551616 := by
        have h1 := dv_lt ((HD.out.drop (r + 18 * k)).take 18)
        rw [hxl] at h1
        have h3 : (10 : Nat) ^ 18 = 1000000000000000000 := by decide
        omega
      have hmax : dv ((bs s).take (r + 18 * (k + 1))) < maxN := dv_max (HD.out.take _) (by rw [List.length_take, bs_len]; omega)
      have HV := Lib.hid hv; have HLT2 := Lib.hid hlt; have HMX := Lib.hid hmax
      clear hx1 hxl hx2 C hv hlt hmax hle; go_wp2_with fail
      refine (HC.out _).mono ?_
      clear HC
      rintro e w4 ⟨rfl, hB4⟩
      have na := na.below hB4 (Nat.le_refl _)
      have hb4 := hB.trans (hB4.mono hB.size)
      have C := Lib.hid (behind_fit na _ HLT2.out (by rw [HV.out]; exact HMX.out))
      clear hB hB4; go_wp2_with fail
      refine C.out.mono ?_
      clear C
      rintro e w5 ⟨⟨v5, rfl, n5⟩, hB5⟩
      have hb5 := hb4.trans (hB5.mono hb4.size)
      clear hb4 hB5 na; go_wp2_with fail
      go_roundw
      case rel => exact ⟨k + 1, by omega, by go_num, n5.eq HV.out, hb5⟩
      case measure => simp [intOf]; omega
    · have hkI : ¬ (k : Int) < (q : Int) := by omega
      have hkq : k = q := by omega
      have hall : (bs s).take (r + 18 * k) = bs s := List.take_of_length_le (by rw [bs_len, hkq, HQ.out]; exact Nat.le_refl _)
      rw [hall] at na
      clear hkq hall hlk
      go_wp2
      go_ret2
      exact ⟨⟨_, rfl, na⟩, hB⟩
end Go.Proofs.YtcfgefbkeeedgaaGreat
