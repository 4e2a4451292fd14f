/-
  How many bits a number has; what limbs.Bits, Compare, Div and Left answer, as numbers.
-/
import Derived.Test.YtphhaaofkckobaaFits
import Derived.Test.YtphhaaofkckobaaLong
namespace Go.Proofs.Ytphhaaofkckobaa
open Go.RowKit

/-- How many bits a number has. -/
def nbits (n : Nat) : Nat := if n = 0 then 0 else Nat.log2 n + 1
theorem nbits_of {n t : Nat} (h1 : 1 ≤ t) (h2 : 2 ^ (t - 1) ≤ n) (h3 : n < 2 ^ t) : nbits n = t := by
  have h0 : n ≠ 0 := by have := Nat.two_pow_pos (t - 1); omega
  unfold nbits
  rw [if_neg h0]
  have h4 : t - 1 ≤ Nat.log2 n := (Nat.le_log2 h0).2 h2
  have h5 : Nat.log2 n < t := (Nat.log2_lt h0).2 h3
  omega
theorem nbits_spec {n : Nat} (h : n ≠ 0) : 1 ≤ nbits n ∧ 2 ^ (nbits n - 1) ≤ n ∧ n < 2 ^ nbits n := by
  unfold nbits
  rw [if_neg h, Nat.add_sub_cancel]
  exact ⟨by omega, Nat.log2_self_le h, Nat.lt_log2_self⟩
theorem nbits_shl {m : Nat} (n : Nat) (h : m ≠ 0) : nbits (m * 2 ^ n) = nbits m + n := by
  obtain ⟨h1, h2, h3⟩ := nbits_spec h
  refine nbits_of (by omega) ?_ ?_
  · rw [show nbits m + n - 1 = nbits m - 1 + n by omega, Nat.pow_add]
    exact Nat.mul_le_mul_right _ h2
  · rw [Nat.pow_add]
    exact Nat.mul_lt_mul_of_pos_right h3 (Nat.two_pow_pos n)
theorem bitsOf_nbits {ds : List Nat} (h : Can 4294967296 ds) : bitsOf ds = nbits (val 4294967296 ds) := by
  by_cases h0 : ds = []
  · subst h0; rfl
  · obtain ⟨b1, b2, b3⟩ := bits_bounds h h0
    exact (nbits_of b1 b2 b3).symm
theorem nbits_lt {m : Nat} (h : m < maxN) : nbits m ≤ 16384 := by
  by_cases h0 : m = 0
  · subst h0; simp [nbits]
  · obtain ⟨q, hq⟩ : ∃ q : Nat, q = 32 * 512 := ⟨_, rfl⟩
    rw [maxN_two q 512 rfl hq] at h
    obtain ⟨h1, h2, h3⟩ := nbits_spec h0
    have := (Nat.pow_lt_pow_iff_right (a := 2) (by decide)).1 (Nat.lt_of_le_of_lt h2 h)
    omega
theorem shl_lt_max {m n : Nat} (h0 : m ≠ 0) : m * 2 ^ n < maxN ↔ nbits m + n ≤ 16384 := by
  constructor
  · intro h
    have := nbits_lt h
    rwa [nbits_shl n h0] at this
  · intro h
    obtain ⟨q, hq⟩ : ∃ q : Nat, q = 32 * 512 := ⟨_, rfl⟩
    rw [maxN_two q 512 rfl hq]
    obtain ⟨h1, h2, h3⟩ := nbits_spec h0
    refine Nat.lt_of_lt_of_le (Nat.mul_lt_mul_of_pos_right h3 (Nat.two_pow_pos n)) ?_
    rw [← Nat.pow_add]
    exact Nat.pow_le_pow_right (by decide) (by omega)
theorem bits_nat {va : Value} {m : Nat} {w : World} (ha : IsNat w va m) (hm : m < maxN) {t : Nat} (ht : nbits m = t) :
    Calls Try.prog 31 #[va] w fun e w' => e = .returned (.int .i64 t) ∧ Below w.heap.size w w' := by
  obtain ⟨ds, hn, hc, rfl⟩ := ha
  subst ht
  rw [← bitsOf_nbits hc]
  exact bits_any hn hc (by have := hc.len_max.2 hm; omega)
theorem IsNat.nought {w : World} {v : Value} (h : IsNat w v 0) : ∃ p K, v = .slice p 0 K := by
  obtain ⟨ds, ⟨p, K, rfl, _⟩, hc, hv⟩ := h
  rw [hc.eq_nil (by decide) hv]
  exact ⟨p, K, rfl⟩
theorem left_over {va : Value} {m : Nat} {w : World} (ha : IsNat w va m) (hm : m < maxN) (n : Nat) (hn : n ≤ 9223372036854775807) (h : maxN ≤ m * 2 ^ n) :
    Calls Try.prog 29 #[va, .int .i64 n] w fun e w' => e = .returned (.tuple #[.slice none 0 0, .int .i64 11]) ∧ Below w.heap.size w w' := by
  refine (left_any ha hm n hn).mono ?_
  rintro e w' ⟨⟨v, c, rfl, hf⟩, hB⟩
  obtain ⟨rfl, rfl⟩ := hf.2 h
  exact ⟨rfl, hB⟩
theorem compare_nat {va vb : Value} {m n : Nat} {w : World} (ha : IsNat w va m) (hb : IsNat w vb n) (hm : m < maxN) (hn : n < maxN) {c : Int} (hc : cmpI m n = c) :
    Calls Try.prog 27 #[va, vb] w fun e w' => e = .returned (.int .i64 c) ∧ Below w.heap.size w w' := by
  obtain ⟨ds, hv1, hc1, rfl⟩ := ha
  obtain ⟨es, hv2, hc2, rfl⟩ := hb
  subst hc
  exact compare_any hv1 hv2 hc1 hc2 (hc1.len_max.2 hm) (hc2.len_max.2 hn)
theorem div_nat {va vb : Value} {m n : Nat} {w : World} (ha : IsNat w va m) (hb : IsNat w vb n) (hm : m < maxN) (hn : n < maxN) (h0 : 0 < n) :
    Calls Try.prog 24 #[va, vb] w fun e w' => (∃ v1 v2, e = .returned (.tuple #[v1, v2, .int .i64 0]) ∧ IsNat w' v1 (m / n) ∧ IsNat w' v2 (m % n)) ∧ Below w.heap.size w w' :=
  div_fit (long_any n) ha hb hm hn h0


end Go.Proofs.Ytphhaaofkckobaa
