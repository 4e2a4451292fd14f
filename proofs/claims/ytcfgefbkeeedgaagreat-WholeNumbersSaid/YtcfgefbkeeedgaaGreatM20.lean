/-
  What the statement stands on.
-/
import Derived.Test.YtcfgefbkeeedgaaGreatM16
import Derived.Deep.LoopGhost
namespace Go.Proofs.YtcfgefbkeeedgaaGreat
open Go.RowKit
set_option maxRecDepth 100000 in
set_option maxHeartbeats 1000000 in
theorem gcdSmall_any (x y : Nat) (w : World) (hx : x < 18446744073709551616) (hy : y < 18446744073709551616) :
    Calls Tryz.prog 48 #[.int .u64 x, .int .u64 y] w fun e w' => e = .returned (.int .u64 (Nat.gcd x y : Nat)) ∧ Below w.heap.size w w' := by
  go_enter Tryz.func48, Tryz.ntmps48
  go_wp2_with fail
  go_loopw [0, 1] (fun sx sy wr => ∃ a b : Nat, a < 18446744073709551616 ∧ b < 18446744073709551616 ∧ sx = .int .u64 a ∧ sy = .int .u64 b ∧ Hid (Nat.gcd a b = Nat.gcd x y) ∧ Below w.heap.size w wr) (fun _ sy _ => (intOf sy).toNat)
  case atStart => exact ⟨x, y, hx, hy, rfl, rfl, rfl, Below.refl _ _⟩
  case round =>
    obtain ⟨a, b, ha, hb, rfl, rfl, hg, hB⟩ := hrel
    by_cases h0 : 0 < b
    · have hbI : (0 : Int) < (b : Int) := by omega
      have hbne : ((b : Int) == 0) = false := by simp; omega
      have HM := Lib.hid (Nat.mod_lt a h0)
      have HG := Lib.hid (show Nat.gcd b (a % b) = Nat.gcd x y by rw [Nat.gcd_comm, ← Nat.gcd_rec, Nat.gcd_comm]; exact hg.out)
      have HA := Lib.hid (And.intro ha hb)
      have HB := Lib.hid hB
      clear h0 ha hb hg hB hx hy; go_wp2_with fail
      go_quiet (fail)
      have eq2 : ((a : Int) % (b : Int)) = ((a % b : Nat) : Int) := by rw [← Int.natCast_emod]
      rw [eq2]
      clear eq2; go_wp2_with fail
      go_roundw
      case rel => exact ⟨b, a % b, HA.out.2, by have := HA.out.2; have := HM.out; omega, rfl, rfl, HG.out, below_drewN HB.out _⟩
      case measure => have := HM.out; simp [intOf]; omega
    · have hb0 : b = 0 := by omega
      subst hb0
      have HG := Lib.hid (show a = Nat.gcd x y by rw [← hg.out, Nat.gcd_zero_right])
      go_wp2
      go_ret
      exact ⟨ret_one (by rw [← HG.out]; rfl), hB⟩
set_option maxRecDepth 100000 in
set_option maxHeartbeats 1000000 in
theorem both_yes {va vb : Value} {m n : Nat} {w : World} (ha : IsNat w va m) (hb : IsNat w vb n) (hm : m < 18446744073709551616) (hn : n < 18446744073709551616) :
    Calls Tryz.prog 47 #[va, vb] w fun e w' => e = .returned (.tuple #[.int .u64 m, .int .u64 n, .bool true]) ∧ Below w.heap.size w w' := by
  have C1 := Lib.hid (small_fit ha hm)
  have HN := Lib.hid hn
  clear ha hm hn
  go_enter Tryz.func47, Tryz.ntmps47
  go_wp2_with fail
  refine C1.out.mono ?_
  rintro e w1 ⟨rfl, hB⟩
  have hb := hb.below hB (Nat.le_refl _)
  have C2 := Lib.hid (small_fit hb HN.out)
  go_wp2_with fail
  refine C2.out.mono ?_
  rintro e w2 ⟨rfl, hB2⟩
  go_wp2
  go_ret3
  exact ⟨rfl, hB.trans (hB2.mono hB.size)⟩
set_option maxRecDepth 100000 in
set_option maxHeartbeats 1000000 in
theorem both_no {va vb : Value} {m n : Nat} {w : World} (ha : IsNat w va m) (hb : IsNat w vb n) (hm : m < maxN) (hn : n < maxN) (hno : 18446744073709551616 ≤ m ∨ 18446744073709551616 ≤ n) :
    Calls Tryz.prog 47 #[va, vb] w fun e w' => (∃ x y, e = .returned (.tuple #[x, y, .bool false])) ∧ Below w.heap.size w w' := by
  have HN := Lib.hid hn
  by_cases h1 : 18446744073709551616 ≤ m
  · have C1 := Lib.hid (small_over ha hm h1)
    by_cases h2 : 18446744073709551616 ≤ n
    · have H2 := Lib.hid h2
      clear ha hm hn hno h1 h2
      go_enter Tryz.func47, Tryz.ntmps47
      go_wp2_with fail
      refine C1.out.mono ?_
      rintro e w1 ⟨rfl, hB⟩
      have hb := hb.below hB (Nat.le_refl _)
      have C2 := Lib.hid (small_over hb HN.out H2.out)
      go_wp2_with fail
      refine C2.out.mono ?_
      rintro e w2 ⟨rfl, hB2⟩
      go_wp2
      go_ret3
      exact ⟨⟨_, _, rfl⟩, hB.trans (hB2.mono hB.size)⟩
    · have H2 := Lib.hid (Nat.lt_of_not_le h2)
      clear ha hm hn hno h1 h2
      go_enter Tryz.func47, Tryz.ntmps47
      go_wp2_with fail
      refine C1.out.mono ?_
      rintro e w1 ⟨rfl, hB⟩
      have hb := hb.below hB (Nat.le_refl _)
      have C2 := Lib.hid (small_fit hb H2.out)
      go_wp2_with fail
      refine C2.out.mono ?_
      rintro e w2 ⟨rfl, hB2⟩
      go_wp2
      go_ret3
      exact ⟨⟨_, _, rfl⟩, hB.trans (hB2.mono hB.size)⟩
  · have C1 := Lib.hid (small_fit ha (Nat.lt_of_not_le h1))
    have H2 := Lib.hid (hno.resolve_left h1)
    clear ha hm hn hno h1
    go_enter Tryz.func47, Tryz.ntmps47
    go_wp2_with fail
    refine C1.out.mono ?_
    rintro e w1 ⟨rfl, hB⟩
    have hb := hb.below hB (Nat.le_refl _)
    have C2 := Lib.hid (small_over hb HN.out H2.out)
    go_wp2_with fail
    refine C2.out.mono ?_
    rintro e w2 ⟨rfl, hB2⟩
    go_wp2
    go_ret3
    exact ⟨⟨_, _, rfl⟩, hB.trans (hB2.mono hB.size)⟩
theorem nbits_pos {n : Nat} (h : n ≠ 0) : 0 < nbits n := (nbits_spec h).1
set_option maxRecDepth 100000 in
set_option maxHeartbeats 2000000 in
theorem gcd_any {va vb : Value} {m n : Nat} {w : World} (ha : IsNat w va m) (hb : IsNat w vb n) (hm : m < maxN) (hn : n < maxN) :
    Calls Tryz.prog 20 #[va, vb] w fun e w' => (∃ v, e = .returned v ∧ IsNat w' v (Nat.gcd m n)) ∧ Below w.heap.size w w' := by
  have HM := Lib.hid hm; have HN := Lib.hid hn
  clear hm hn
  go_enter Tryz.func20, Tryz.ntmps20
  go_wp2_with fail
  go_loopg [0, 1] n (fun k sa sb wr => ∃ j : Nat, IsNat wr sa j ∧ IsNat wr sb k ∧ Hid (j < maxN) ∧ Hid (k < maxN) ∧ Hid (Nat.gcd j k = Nat.gcd m n) ∧ Below w.heap.size w wr)
  case atStart => exact ⟨m, ha, hb, HM.out, HN.out, rfl, Below.refl _ _⟩
  case round =>
    clear ha hb
    obtain ⟨j, hj, hk, hjm, hkm, hg, hB⟩ := hrel
    by_cases h0 : gk = 0
    · subst h0
      have C := Lib.hid (bits_nat hk hkm.out (t := 0) rfl)
      have HG := Lib.hid (show j = Nat.gcd m n by rw [← hg.out, Nat.gcd_zero_right])
      go_wp2_with fail
      refine C.out.mono ?_
      clear C
      rintro e w1 ⟨rfl, hB1⟩
      have hj := hj.below hB1 (Nat.le_refl _)
      have hb1 := hB.trans (hB1.mono hB.size)
      have C := Lib.hid (right_any hj hjm.out 0 (by omega))
      clear hk hB hB1; go_wp2_with fail
      refine C.out.mono ?_
      clear C
      rintro e w2 ⟨⟨v, rfl, hv⟩, hB2⟩
      go_wp2
      go_ret
      exact ⟨⟨_, rfl, hv.eq (by rw [Nat.pow_zero, Nat.div_one, HG.out])⟩, hb1.trans (hB2.mono hb1.size)⟩
    · obtain ⟨t, ht⟩ : ∃ t, nbits gk = t := ⟨_, rfl⟩
      have htp : 0 < t := by rw [← ht]; exact nbits_pos h0
      have htI : (0 : Int) < (t : Int) := by omega
      have HT := Lib.hid ht
      have H0 := Lib.hid h0
      have C := Lib.hid (bits_nat hk hkm.out HT.out)
      clear h0 ht htp; go_wp2_with fail
      refine C.out.mono ?_
      clear C
      rintro e w1 ⟨rfl, hB1⟩
      have hj := hj.below hB1 (Nat.le_refl _)
      have hk := hk.below hB1 (Nat.le_refl _)
      have hb1 := hB.trans (hB1.mono hB.size)
      clear hB hB1
      by_cases hs : j < 18446744073709551616 ∧ gk < 18446744073709551616
      · have HS := Lib.hid hs
        have C := Lib.hid (both_yes hj hk HS.out.1 HS.out.2)
        clear hs; go_wp2_with fail
        refine C.out.mono ?_
        clear C
        rintro e w2 ⟨rfl, hB2⟩
        have hb2 := hb1.trans (hB2.mono hb1.size)
        have C := Lib.hid (fun W => gcdSmall_any j gk W HS.out.1 HS.out.2)
        clear hb1 hB2; go_wp2_with fail
        refine (C.out _).mono ?_
        clear C
        rintro e w3 ⟨rfl, hB3⟩
        have hb3 := hb2.trans (hB3.mono hb2.size)
        have hgl : Nat.gcd j gk < 18446744073709551616 := Nat.lt_of_le_of_lt (Nat.le_of_dvd (by have := H0.out; omega) (Nat.gcd_dvd_right _ _)) HS.out.2
        have HGL := Lib.hid hgl
        obtain ⟨g, hgg⟩ : ∃ g, Nat.gcd j gk = g := ⟨_, rfl⟩
        rw [hgg] at HGL hg ⊢
        have C := Lib.hid (fun W => of_any g W HGL.out)
        clear hgl hgg hb2 hB3; go_wp2_with fail
        refine (C.out _).mono ?_
        clear C
        rintro e w4 ⟨⟨v, rfl, hv⟩, hB4⟩
        go_wp2
        go_ret
        exact ⟨⟨_, rfl, hv.eq hg.out⟩, hb3.trans (hB4.mono hb3.size)⟩
      · have HS := Lib.hid (show 18446744073709551616 ≤ j ∨ 18446744073709551616 ≤ gk by omega)
        have C := Lib.hid (both_no hj hk hjm.out hkm.out HS.out)
        clear hs; go_wp2_with fail
        refine C.out.mono ?_
        clear C
        rintro e w2 ⟨⟨x, y, rfl⟩, hB2⟩
        have hj := hj.below hB2 (Nat.le_refl _)
        have hk := hk.below hB2 (Nat.le_refl _)
        have hb2 := hb1.trans (hB2.mono hb1.size)
        have HP := Lib.hid (Nat.pos_of_ne_zero H0.out)
        have C := Lib.hid (div_nat hj hk hjm.out hkm.out HP.out)
        clear hb1 hB2; go_wp2_with fail
        refine C.out.mono ?_
        clear C
        rintro e w3 ⟨⟨v1, v2, rfl, h1, h2⟩, hB3⟩
        have hk := hk.below hB3 (Nat.le_refl _)
        have hb3 := hb2.trans (hB3.mono hb2.size)
        clear hb2 hB3 hj h1
        have HL := Lib.hid (Nat.mod_lt j HP.out)
        go_wp2_with fail
        go_roundg (j % gk)
        case measure => exact HL.out
        case rel => exact ⟨gk, hk, h2, hkm.out, Nat.lt_trans HL.out hkm.out, by show _ = _; rw [Nat.gcd_comm, ← Nat.gcd_rec, Nat.gcd_comm]; exact hg.out, hb3⟩
theorem pow_mono10 {a b : Nat} (h : a ≤ b) : 10 ^ a ≤ 10 ^ b := Nat.pow_le_pow_right (by decide) h
theorem ten_split (n : Nat) : 10 ^ (n % 18) * blk ^ (n / 18) = 10 ^ n := by
  rw [blk_eq, ← Nat.pow_mul, ← Nat.pow_add, Nat.mod_add_div]
theorem blk_small {x j : Nat} (hx : 0 < x) (h : x * blk ^ j < maxN) : j ≤ 16384 := by
  obtain ⟨q, hq⟩ : ∃ q : Nat, q = 32 * 512 := ⟨_, rfl⟩
  rw [maxN_two q 512 rfl hq] at h
  have h1 := Nat.pow_le_pow_left (show 2 ≤ blk by decide) j
  have h2 := Nat.le_mul_of_pos_left (blk ^ j) hx
  have := (Nat.pow_lt_pow_iff_right (a := 2) (by decide)).1 (Nat.lt_of_le_of_lt (Nat.le_trans h1 h2) h)
  omega
def TenPost (n : Nat) (w : World) (e : Ending) (w' : World) : Prop :=
  ((10 ^ n < maxN ∧ ∃ v, e = .returned (.tuple #[v, .int .i64 0]) ∧ IsNat w' v (10 ^ n)) ∨ (maxN ≤ 10 ^ n ∧ e = .returned (.tuple #[.slice none 0 0, .int .i64 11]))) ∧ Below w.heap.size w w'
set_option maxRecDepth 100000 in
set_option maxHeartbeats 2000000 in
theorem ten_any (n : Nat) (w : World) (hn : n ≤ 9223372036854775807) :
    Calls Tryz.prog 71 #[.int .i64 n] w (TenPost n w) := by
  obtain ⟨r, hr⟩ : ∃ r, n % 18 = r := ⟨_, rfl⟩
  obtain ⟨q, hq⟩ : ∃ q, n / 18 = q := ⟨_, rfl⟩
  have hrI : (n : Int) % 18 = (r : Int) := by omega
  have hqI : (n : Int) / 18 = (q : Int) := by omega
  have hrl : r < 18 := by omega
  have hql : q ≤ 512409557603043100 := by omega
  have HR := Lib.hid (And.intro hr hq)
  have HS := Lib.hid (ten_split n)
  rw [hr, hq] at HS
  have hn0 : (0 : Int) ≤ (n : Int) := by omega
  have HRI := Lib.hid hrI; have HQI := Lib.hid hqI; have HNN := Lib.hid hn; have HQL := Lib.hid hql
  clear hr hq hn hql
  go_enter Tryz.func71, Tryz.ntmps71
  go_wp2_with fail
  go_loop [4, 11] (fun sf si => ∃ i : Nat, i ≤ r ∧ si = .int .i64 i ∧ sf = .int .u64 ((10 ^ i : Nat) : Int)) (fun _ si => r - (intOf si).toNat)
  case atStart => exact ⟨0, by omega, rfl, rfl⟩
  case round =>
    obtain ⟨i, hi, rfl, rfl⟩ := hrel
    by_cases hlt : i < r
    · have hli : (i : Int) < (r : Int) := by omega
      have hp := Nat.pow_le_pow_right (n := 10) (by decide) (show i ≤ 17 by omega)
      have hp2 : (10 : Nat) ^ 17 = 100000000000000000 := by decide
      rw [hp2] at hp
      have HE := Lib.hid (Nat.pow_succ 10 i)
      clear hp2
      generalize 10 ^ i = x at *
      have hxI : (x : Int) ≤ 100000000000000000 := by omega
      go_wp2
      go_round
      case rel => exact ⟨i + 1, by omega, by go_num, by rw [HE.out]; go_num⟩
      case measure => simp [intOf]; omega
    · have hli : ¬ (i : Int) < (r : Int) := by omega
      have hir : i = r := by omega
      subst hir
      have hp : 10 ^ i < 18446744073709551616 := by
        have hp := Nat.pow_le_pow_right (n := 10) (by decide) (show i ≤ 17 by omega)
        have hp2 : (10 : Nat) ^ 17 = 100000000000000000 := by decide
        omega
      have HP := Lib.hid hp
      obtain ⟨x, hx⟩ : ∃ x, 10 ^ i = x := ⟨_, rfl⟩
      rw [hx] at HP HS ⊢
      have HX := Lib.hid hx
      have C := Lib.hid (fun W => of_any x W HP.out)
      clear hp hx hlt; go_wp2_with fail
      refine (C.out _).mono ?_
      clear C
      rintro e w1 ⟨⟨v1, rfl, n1⟩, hB1⟩
      have hw := Lib.hid (show wrap64 (q : Int) = (q : Int) by have := HQL.out; unfold wrap64; omega)
      go_wp2_with fail
      rw [hw.out]
      clear hw
      go_loopw [5, 20] (fun sa sj wr => ∃ j : Nat, j ≤ q ∧ sj = .int .i64 j ∧ Hid (x * blk ^ j < maxN) ∧ IsNat wr sa (x * blk ^ j) ∧ Below w.heap.size w wr) (fun _ sj _ => q - (intOf sj).toNat)
      case atStart => exact ⟨0, by omega, rfl, by show _ < _; rw [Nat.pow_zero, Nat.mul_one]; exact lt_maxN (by have := HP.out; omega), by rw [Nat.pow_zero, Nat.mul_one]; exact n1, hB1⟩
      case round =>
        clear n1 hB1
        obtain ⟨j, hj, rfl, hf, na, hB⟩ := hrel
        have HJ := Lib.hid (Nat.pow_succ blk j)
        by_cases hlj : j < q
        · have hlI : (j : Int) < (q : Int) := by omega
          have hj2 : j ≤ 16384 := blk_small (by rw [← HX.out]; exact Nat.pow_pos (by decide)) hf.out
          have hqI2 : (j : Int) ≤ 16384 := by omega
          by_cases hfit : x * blk ^ (j + 1) < maxN
          · have HF := Lib.hid hfit
            have C := Lib.hid (behind_fit na 0 (by decide) (by rw [Nat.add_zero, Nat.mul_assoc, ← HJ.out]; exact HF.out))
            clear hfit na; go_wp2_with fail
            refine C.out.mono ?_
            clear C
            rintro e w2 ⟨⟨v2, rfl, n2⟩, hB2⟩
            have hb2 := hB.trans (hB2.mono hB.size)
            clear hB hB2; go_wp2_with fail
            go_roundw
            case rel => exact ⟨j + 1, by omega, by go_num, HF.out, n2.eq (by rw [Nat.add_zero, Nat.mul_assoc, ← HJ.out]), hb2⟩
            case measure => simp [intOf]; omega
          · have hov : maxN ≤ x * blk ^ j * blk + 0 := by rw [Nat.add_zero, Nat.mul_assoc, ← HJ.out]; exact Nat.le_of_not_lt hfit
            have C := Lib.hid (behind_over na hf.out 0 (by decide) hov)
            have HO : Hid (maxN ≤ 10 ^ n) := by
              show _ ≤ _
              rw [← HS.out]
              refine Nat.le_trans (Nat.le_of_not_lt hfit) (Nat.mul_le_mul_left _ (Nat.pow_le_pow_right (by decide) ?_))
              omega
            clear hfit na hov; go_wp2_with fail
            refine C.out.mono ?_
            clear C
            rintro e w2 ⟨rfl, hB2⟩
            go_wp2
            go_ret2
            exact ⟨.inr ⟨HO.out, rfl⟩, hB.trans (hB2.mono hB.size)⟩
        · have hlI : ¬ (j : Int) < (q : Int) := by omega
          have hjq : j = q := by omega
          subst hjq
          have na := na.eq HS.out
          have hf' := hf.out
          rw [HS.out] at hf'
          have HF := Lib.hid hf'
          clear hf' hlj
          go_wp2
          go_ret2
          exact ⟨.inl ⟨HF.out, _, rfl, na⟩, hB⟩
end Go.Proofs.YtcfgefbkeeedgaaGreat
