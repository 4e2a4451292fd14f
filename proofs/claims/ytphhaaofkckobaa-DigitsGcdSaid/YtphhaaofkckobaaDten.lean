/-
  digits.behind, digits.Ten: numbers by blocks of eighteen digits.
-/
import Derived.Test.YtphhaaofkckobaaDgcd
namespace Go.Proofs.Ytphhaaofkckobaa
open Go.RowKit

theorem mul_over' {va vb : Value} {m n : Nat} {w : World} (ha : IsNat w va m) (hb : IsNat w vb n) (hm : m < maxN) (hn : n < maxN) (h : maxN ≤ m * n) :
    Calls Try.prog 22 #[va, vb] w fun e w' => e = .returned (.tuple #[.slice none 0 0, .int .i64 11]) ∧ Below w.heap.size w w' :=
  (mul_any ha hb hm hn).mono fun e w' ⟨⟨v, c, he, hf⟩, hB⟩ => by
    obtain ⟨rfl, rfl⟩ := hf.2 h
    exact ⟨he, hB⟩
theorem add_over' {va vb : Value} {m n : Nat} {w : World} (ha : IsNat w va m) (hb : IsNat w vb n) (hm : m < maxN) (hn : n < maxN) (h : maxN ≤ m + n) :
    Calls Try.prog 59 #[va, vb] w fun e w' => e = .returned (.tuple #[.slice none 0 0, .int .i64 11]) ∧ Below w.heap.size w w' :=
  (add_any ha hb hm hn).mono fun e w' ⟨⟨v, c, he, hf⟩, hB⟩ => by
    obtain ⟨rfl, rfl⟩ := hf.2 h
    exact ⟨he, hB⟩

/-- 10 to the power of 18, behind a name. -/
def blk : Nat := 1000000000000000000
theorem blk_eq : blk = 10 ^ 18 := by decide
theorem blk_lt : blk < 18446744073709551616 := by decide
theorem blk_max : blk < maxN := lt_maxN (by decide)

theorem of_blk (w : World) : Calls Try.prog 25 #[.int .u64 1000000000000000000] w fun e w' => (∃ v, e = .returned v ∧ IsNat w' v blk) ∧ Below w.heap.size w w' := of_any 1000000000000000000 w (by decide)

set_option maxRecDepth 100000 in
set_option maxHeartbeats 1000000 in
theorem behind_fit {va : Value} {m : Nat} {w : World} (ha : IsNat w va m) (b : Nat) (hb : b < 18446744073709551616) (h : m * blk + b < maxN) :
    Calls Try.prog 39 #[va, .int .u64 b] w fun e w' => (∃ v, e = .returned (.tuple #[v, .int .i64 0]) ∧ IsNat w' v (m * blk + b)) ∧ Below w.heap.size w w' := by
  have h1 : m * blk < maxN := by omega
  have h2 : m < maxN := Nat.lt_of_le_of_lt (Nat.le_mul_of_pos_right m (by decide)) h1
  have H := Lib.hid (And.intro h (And.intro h1 (And.intro h2 hb)))
  have C1 := Lib.hid (of_blk w)
  clear h h1 h2 hb
  go_enter Try.func39, Try.ntmps39
  go_wp2_with fail
  refine C1.out.mono ?_
  clear C1
  rintro e w1 ⟨⟨v1, rfl, n1⟩, hB1⟩
  have ha := ha.below hB1 (Nat.le_refl _)
  have C := Lib.hid (mul_fit ha n1 H.out.2.2.1 blk_max H.out.2.1)
  go_wp2_with fail
  refine C.out.mono ?_
  clear C
  rintro e w2 ⟨⟨v2, rfl, n2⟩, hB2⟩
  have hb2 := hB1.trans (hB2.mono hB1.size)
  have C := Lib.hid (fun W => of_any b W H.out.2.2.2)
  clear hB1 hB2 ha n1
  go_wp2_with fail
  refine (C.out _).mono ?_
  clear C
  rintro e w3 ⟨⟨v3, rfl, n3⟩, hB3⟩
  have n2 := n2.below hB3 (Nat.le_refl _)
  have hb3 := hb2.trans (hB3.mono hb2.size)
  have C := Lib.hid (add_fit n2 n3 H.out.1)
  clear hb2 hB3
  go_wp2_with fail
  refine C.out.mono ?_
  clear C
  rintro e w4 ⟨⟨v4, rfl, n4⟩, hB4⟩
  go_wp2
  go_ret2
  exact ⟨⟨_, rfl, n4⟩, hb3.trans (hB4.mono hb3.size)⟩

set_option maxRecDepth 100000 in
set_option maxHeartbeats 1000000 in
theorem behind_over {va : Value} {m : Nat} {w : World} (ha : IsNat w va m) (hm : m < maxN) (b : Nat) (hb : b < 18446744073709551616) (h : maxN ≤ m * blk + b) :
    Calls Try.prog 39 #[va, .int .u64 b] w fun e w' => e = .returned (.tuple #[.slice none 0 0, .int .i64 11]) ∧ Below w.heap.size w w' := by
  have H := Lib.hid (And.intro h (And.intro hm hb))
  have C1 := Lib.hid (of_blk w)
  by_cases h1 : m * blk < maxN
  · have H1 := Lib.hid h1
    clear h hm hb h1
    go_enter Try.func39, Try.ntmps39
    go_wp2_with fail
    refine C1.out.mono ?_
    clear C1
    rintro e w1 ⟨⟨v1, rfl, n1⟩, hB1⟩
    have ha := ha.below hB1 (Nat.le_refl _)
    have C := Lib.hid (mul_fit ha n1 H.out.2.1 blk_max H1.out)
    go_wp2_with fail
    refine C.out.mono ?_
    clear C
    rintro e w2 ⟨⟨v2, rfl, n2⟩, hB2⟩
    have hb2 := hB1.trans (hB2.mono hB1.size)
    have C := Lib.hid (fun W => of_any b W H.out.2.2)
    clear hB1 hB2 ha n1
    go_wp2_with fail
    refine (C.out _).mono ?_
    clear C
    rintro e w3 ⟨⟨v3, rfl, n3⟩, hB3⟩
    have n2 := n2.below hB3 (Nat.le_refl _)
    have hb3 := hb2.trans (hB3.mono hb2.size)
    have hbm : b < maxN := lt_maxN (by have := H.out.2.2; omega)
    have C := Lib.hid (add_over' n2 n3 H1.out hbm H.out.1)
    clear hb2 hB3 hbm
    go_wp2_with fail
    refine C.out.mono ?_
    clear C
    rintro e w4 ⟨rfl, hB4⟩
    go_wp2
    go_ret2
    exact ⟨rfl, hb3.trans (hB4.mono hb3.size)⟩
  · have H1 := Lib.hid (Nat.le_of_not_lt h1)
    clear h hm hb h1
    go_enter Try.func39, Try.ntmps39
    go_wp2_with fail
    refine C1.out.mono ?_
    clear C1
    rintro e w1 ⟨⟨v1, rfl, n1⟩, hB1⟩
    have ha := ha.below hB1 (Nat.le_refl _)
    have C := Lib.hid (mul_over' ha n1 H.out.2.1 blk_max H1.out)
    go_wp2_with fail
    refine C.out.mono ?_
    clear C
    rintro e w2 ⟨rfl, hB2⟩
    go_wp2
    go_ret2
    exact ⟨rfl, hB1.trans (hB2.mono hB1.size)⟩

theorem ten_neg (n : Int) (w : World) (hn : n < 0) :
    Calls Try.prog 26 #[.int .i64 n] w fun e w' => e = .returned (.tuple #[.slice none 0 0, .int .i64 1]) ∧ Below w.heap.size w w' := by
  go_enter Try.func26, Try.ntmps26
  go_wp2
  go_ret2
  exact ⟨rfl, Below.refl _ _⟩

theorem pow_mono10 {a b : Nat} (h : a ≤ b) : 10 ^ a ≤ 10 ^ b := Nat.pow_le_pow_right (by decide) h
theorem ten_split (n : Nat) : 10 ^ (n % 18) * blk ^ (n / 18) = 10 ^ n := by
  rw [blk_eq, ← Nat.pow_mul, ← Nat.pow_add, Nat.mod_add_div]

theorem blk_small {x j : Nat} (hx : 0 < x) (h : x * blk ^ j < maxN) : j ≤ 16384 := by
  obtain ⟨q, hq⟩ : ∃ q : Nat, q = 32 * 512 := ⟨_, rfl⟩
  rw [maxN_two q 512 rfl hq] at h
  have h1 := Nat.pow_le_pow_left (show 2 ≤ blk by decide) j
  have h2 := Nat.le_mul_of_pos_left (blk ^ j) hx
  have := (Nat.pow_lt_pow_iff_right (a := 2) (by decide)).1 (Nat.lt_of_le_of_lt (Nat.le_trans h1 h2) h)
  omega

/-- 10 to the power of n, if that may be; else that it is too great. -/
def TenPost (n : Nat) (w : World) (e : Ending) (w' : World) : Prop :=
  ((10 ^ n < maxN ∧ ∃ v, e = .returned (.tuple #[v, .int .i64 0]) ∧ IsNat w' v (10 ^ n)) ∨ (maxN ≤ 10 ^ n ∧ e = .returned (.tuple #[.slice none 0 0, .int .i64 11]))) ∧ Below w.heap.size w w'

set_option maxRecDepth 100000 in
set_option maxHeartbeats 2000000 in
theorem ten_any (n : Nat) (w : World) (hn : n ≤ 9223372036854775807) :
    Calls Try.prog 26 #[.int .i64 n] w (TenPost n w) := by
  obtain ⟨r, hr⟩ : ∃ r, n % 18 = r := ⟨_, rfl⟩
  obtain ⟨q, hq⟩ : ∃ q, n / 18 = q := ⟨_, rfl⟩
  have hrI : (n : Int) % 18 = (r : Int) := by omega
  have hqI : (n : Int) / 18 = (q : Int) := by omega
  have hrl : r < 18 := by omega
  have hql : q ≤ 512409557603043100 := by omega
  have HR := Lib.hid (And.intro hr hq)
  have HS := Lib.hid (ten_split n)
  rw [hr, hq] at HS
  have hn0 : (0 : Int) ≤ (n : Int) := by omega
  have HRI := Lib.hid hrI; have HQI := Lib.hid hqI; have HNN := Lib.hid hn; have HQL := Lib.hid hql
  clear hr hq hn hql
  go_enter Try.func26, Try.ntmps26
  go_wp2_with fail
  go_loop [4, 11] (fun sf si => ∃ i : Nat, i ≤ r ∧ si = .int .i64 i ∧ sf = .int .u64 ((10 ^ i : Nat) : Int)) (fun _ si => r - (intOf si).toNat)
  case atStart => exact ⟨0, by omega, rfl, rfl⟩
  case round =>
    obtain ⟨i, hi, rfl, rfl⟩ := hrel
    by_cases hlt : i < r
    · have hli : (i : Int) < (r : Int) := by omega
      have hp := Nat.pow_le_pow_right (n := 10) (by decide) (show i ≤ 17 by omega)
      have hp2 : (10 : Nat) ^ 17 = 100000000000000000 := by decide
      rw [hp2] at hp
      have HE := Lib.hid (Nat.pow_succ 10 i)
      clear hp2
      generalize 10 ^ i = x at *
      have hxI : (x : Int) ≤ 100000000000000000 := by omega
      go_wp2
      go_round
      case rel => exact ⟨i + 1, by omega, by go_num, by rw [HE.out]; go_num⟩
      case measure => simp [intOf]; omega
    · have hli : ¬ (i : Int) < (r : Int) := by omega
      have hir : i = r := by omega
      subst hir
      have hp : 10 ^ i < 18446744073709551616 := by
        have hp := Nat.pow_le_pow_right (n := 10) (by decide) (show i ≤ 17 by omega)
        have hp2 : (10 : Nat) ^ 17 = 100000000000000000 := by decide
        omega
      have HP := Lib.hid hp
      obtain ⟨x, hx⟩ : ∃ x, 10 ^ i = x := ⟨_, rfl⟩
      rw [hx] at HP HS ⊢
      have HX := Lib.hid hx
      have C := Lib.hid (fun W => of_any x W HP.out)
      clear hp hx hlt
      go_wp2_with fail
      refine (C.out _).mono ?_
      clear C
      rintro e w1 ⟨⟨v1, rfl, n1⟩, hB1⟩
      have hw := Lib.hid (show wrap64 (q : Int) = (q : Int) by have := HQL.out; unfold wrap64; omega)
      go_wp2_with fail
      rw [hw.out]
      clear hw
      go_loopw [5, 20] (fun sa sj wr => ∃ j : Nat, j ≤ q ∧ sj = .int .i64 j ∧ Hid (x * blk ^ j < maxN) ∧ IsNat wr sa (x * blk ^ j) ∧ Below w.heap.size w wr) (fun _ sj _ => q - (intOf sj).toNat)
      case atStart => exact ⟨0, by omega, rfl, by show _ < _; rw [Nat.pow_zero, Nat.mul_one]; exact lt_maxN (by have := HP.out; omega), by rw [Nat.pow_zero, Nat.mul_one]; exact n1, hB1⟩
      case round =>
        clear n1 hB1
        obtain ⟨j, hj, rfl, hf, na, hB⟩ := hrel
        have HJ := Lib.hid (Nat.pow_succ blk j)
        by_cases hlj : j < q
        · have hlI : (j : Int) < (q : Int) := by omega
          have hj2 : j ≤ 16384 := blk_small (by rw [← HX.out]; exact Nat.pow_pos (by decide)) hf.out
          have hqI2 : (j : Int) ≤ 16384 := by omega
          by_cases hfit : x * blk ^ (j + 1) < maxN
          · have HF := Lib.hid hfit
            have C := Lib.hid (behind_fit na 0 (by decide) (by rw [Nat.add_zero, Nat.mul_assoc, ← HJ.out]; exact HF.out))
            clear hfit na
            go_wp2_with fail
            refine C.out.mono ?_
            clear C
            rintro e w2 ⟨⟨v2, rfl, n2⟩, hB2⟩
            have hb2 := hB.trans (hB2.mono hB.size)
            clear hB hB2
            go_wp2_with fail
            go_roundw
            case rel => exact ⟨j + 1, by omega, by go_num, HF.out, n2.eq (by rw [Nat.add_zero, Nat.mul_assoc, ← HJ.out]), hb2⟩
            case measure => simp [intOf]; omega
          · have hov : maxN ≤ x * blk ^ j * blk + 0 := by rw [Nat.add_zero, Nat.mul_assoc, ← HJ.out]; exact Nat.le_of_not_lt hfit
            have C := Lib.hid (behind_over na hf.out 0 (by decide) hov)
            have HO : Hid (maxN ≤ 10 ^ n) := by
              show _ ≤ _
              rw [← HS.out]
              refine Nat.le_trans (Nat.le_of_not_lt hfit) (Nat.mul_le_mul_left _ (Nat.pow_le_pow_right (by decide) ?_))
              omega
            clear hfit na hov
            go_wp2_with fail
            refine C.out.mono ?_
            clear C
            rintro e w2 ⟨rfl, hB2⟩
            go_wp2
            go_ret2
            exact ⟨.inr ⟨HO.out, rfl⟩, hB.trans (hB2.mono hB.size)⟩
        · have hlI : ¬ (j : Int) < (q : Int) := by omega
          have hjq : j = q := by omega
          subst hjq
          have na := na.eq HS.out
          have hf' := hf.out
          rw [HS.out] at hf'
          have HF := Lib.hid hf'
          clear hf' hlj
          go_wp2
          go_ret2
          exact ⟨.inl ⟨HF.out, _, rfl, na⟩, hB⟩

end Go.Proofs.Ytphhaaofkckobaa
