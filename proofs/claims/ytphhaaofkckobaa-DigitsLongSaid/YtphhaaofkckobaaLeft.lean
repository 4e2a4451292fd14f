/-
  limbs.Left.
-/
import Derived.Test.YtphhaaofkckobaaShl
namespace Go.Proofs.Ytphhaaofkckobaa
open Go.RowKit

theorem maxN_two (q k : Nat) (hk : k = 512) (hq : q = 32 * k) : maxN = 2 ^ q := by
  rw [hq, Nat.pow_mul, show (2 : Nat) ^ 32 = 4294967296 from by decide]
  unfold maxN
  rw [hk]

theorem left_fits {ds : List Nat} (h : Can 4294967296 ds) (h0 : ds ≠ []) (n : Nat) : val 4294967296 ds * 2 ^ n < maxN ↔ bitsOf ds + n ≤ 32 * 512 := by
  obtain ⟨b1, b2, b3⟩ := bits_bounds h h0
  obtain ⟨q, hq⟩ : ∃ q : Nat, q = 32 * 512 := ⟨_, rfl⟩
  rw [maxN_two q 512 rfl hq, ← hq]
  clear hq
  generalize bitsOf ds = t at *
  generalize val 4294967296 ds = v at *
  constructor
  · intro hl
    have h1 := Nat.mul_le_mul_right (2 ^ n) b2
    rw [← Nat.pow_add] at h1
    have := (Nat.pow_lt_pow_iff_right (a := 2) (by decide)).1 (Nat.lt_of_le_of_lt h1 hl)
    omega
  · intro hl
    have h1 := Nat.mul_lt_mul_of_pos_right b3 (Nat.two_pow_pos n)
    rw [← Nat.pow_add] at h1
    exact Nat.lt_of_lt_of_le h1 (Nat.pow_le_pow_right (by decide) hl)

theorem bitsOf_le {ds : List Nat} (h : Can 4294967296 ds) : bitsOf ds ≤ ds.length * 32 := by
  unfold bitsOf
  split
  · omega
  · rename_i h0
    have := blen_le _ (h.1.dg (by decide) (ds.length - 1))
    have := List.length_pos_iff.2 h0
    omega

set_option maxRecDepth 100000 in
set_option maxHeartbeats 1000000 in
theorem left_neg {va : Value} {m : Nat} {w : World} (ha : IsNat w va m) (hm : m < maxN) (n : Int) (hn : n < 0) :
    Calls Try.prog 29 #[va, .int .i64 n] w fun e w' => e = .returned (.tuple #[.slice none 0 0, .int .i64 1]) ∧ Below w.heap.size w w' := by
  obtain ⟨ds, hv1, hc1, rfl⟩ := ha
  have hl1 : ds.length ≤ 512 := hc1.len_max.2 hm
  have H1 := Lib.hid (trim_any hv1 (by omega))
  obtain ⟨q1, k1, rfl, -⟩ := hv1
  clear hm
  go_enter Try.func29, Try.ntmps29
  go_wp2_with (go_at_call 30; refine H1.out.mono ?_; rintro e w1 ⟨⟨v1, rfl, p1, c1, rfl, at1⟩, hB1⟩)
  go_ret2
  exact ⟨rfl, hB1⟩

set_option maxRecDepth 100000 in
set_option maxHeartbeats 2000000 in
theorem left_any {va : Value} {m : Nat} {w : World} (ha : IsNat w va m) (hm : m < maxN) (n : Nat) (hn : n ≤ 9223372036854775807) :
    Calls Try.prog 29 #[va, .int .i64 n] w fun e w' => (∃ v c, e = .returned (.tuple #[v, .int .i64 c]) ∧ FitsN (m * 2 ^ n) w' v c) ∧ Below w.heap.size w w' := by
  obtain ⟨ds, hv1, hc1, rfl⟩ := ha
  have hl1 : ds.length ≤ 512 := hc1.len_max.2 hm
  have h0n : 0 < maxN := Nat.lt_of_le_of_lt (Nat.zero_le _) hm
  have C1 := trim_any hv1 (by omega)
  rw [hc1.2] at C1
  have H1 := Lib.hid C1
  obtain ⟨q1, k1, rfl, -⟩ := hv1
  clear hm C1
  have hni : (n : Int) ≤ 9223372036854775807 := by omega
  go_enter Try.func29, Try.ntmps29
  go_wp2_with fail
  refine H1.out.mono ?_
  rintro e w1 ⟨⟨v1, rfl, hr1⟩, hB⟩
  clear H1
  have HB := Lib.hid (fun W (hW : Below w1.heap.size w1 W) => bits_any (hr1.below hW (Nat.le_refl _)) hc1 (by omega))
  obtain ⟨p1, K1, rfl, at1⟩ := hr1
  by_cases h1 : ds = []
  · subst h1
    have HN := Lib.hid h0n
    go_wp2
    go_ret2
    exact ⟨⟨_, _, rfl, fun _ => ⟨rfl, [], .nil _ _, Can.nil _, by simp [val]⟩, fun h => by simp [val] at h; have := HN.out; omega⟩, hB⟩
  · have lx := List.length_pos_iff.2 h1
    have z1 : (((ds.length : Nat) : Int) == 0) = false := by simp; omega
    have HF := Lib.hid (left_fits hc1 h1 n)
    have hbl := bitsOf_le hc1
    have hneg : ¬ (n : Int) < 0 := by omega
    clear h1
    generalize bitsOf ds = t at *
    by_cases hbig : (16384 : Int) - t < n
    · go_wp2_with (go_at_call 31; refine (HB.out _ (Below.refl _ _)).mono ?_; rintro e w2 ⟨rfl, hB2⟩)
      go_ret2
      exact ⟨⟨_, _, rfl, fun h => by have := HF.out.1 h; omega, fun _ => ⟨rfl, rfl⟩⟩, hB.trans (hB2.mono hB.size)⟩
    · go_upto_region 9 with (first
        | (go_at_call 31; refine (HB.out _ (Below.refl _ _)).mono ?_; rintro e w2 ⟨rfl, hB2⟩)
        | (at_make; refine make_nat rfl _ _ rfl _ _ (n / 32 + ds.length + 1) rfl rfl ?hL ?hC ?hn _ _ (Below.refl _ _) (Nat.le_refl _) (fun w3 hr3 hB3 hB3' => ?_)))
      case hL => omega
      case hC => omega
      case hn => omega
      have hBx := hB.trans (hB2.mono hB.size)
      have at1 := (at1.below hB2 (Nat.le_refl _))
      have hp1 : ∀ a, p1 = some a → a.block ≠ w2.heap.size := by
        intro a ha
        rcases at1 with ⟨rfl, _⟩ | ⟨b, o, rfl, _, hb, _⟩
        · cases ha
        · cases ha; exact Nat.ne_of_lt hb
      have at3 := at1.below hB3 (Nat.le_refl _)
      have S := Lib.hid (shl_any w2.heap.size (n / 32) (n / 32 + ds.length + 1 - n / 32) (n % 32) K1 (n / 32 + ds.length + 1 - n / 32) p1 ds w3 hr3 hc1.1 (Nat.mod_lt _ (by decide)) (by omega) (by omega) at3 hp1)
      go_wp2_with fail
      rw [show ((n : Int) % 32) = ((n % 32 : Nat) : Int) by omega]
      refine S.out.mono ?_
      rintro e w4 ⟨⟨v4, rfl⟩, cs, hcl, hcd, hcv, hrow, hO⟩
      have hB4 : Below w2.heap.size w2 w4 := hO.below hB3 (Nat.le_refl _) hB3.size
      have hn4 := hrow.all (n / 32 + ds.length + 1) (by omega)
      rw [hcl] at hn4
      have W := Lib.hid (within_any hn4 (by omega))
      have HV := Lib.hid (show val 4294967296 (cut cs) = val 4294967296 ds * 2 ^ n by
        rw [val_cut, hcv, show (4294967296 : Nat) = 2 ^ 32 from by decide, ← Nat.pow_mul, ← Nat.mul_assoc, ← Nat.pow_add, Nat.mul_comm, show 32 * (n / 32) + n % 32 = n by omega])
      have HBB := Lib.hid (hBx.trans (hB4.mono hBx.size))
      clear hcl hcv hrow hn4 S hO
      go_wp2_with (go_at_call 47; refine W.out.mono ?_; rintro e w5 ⟨⟨v5, c5, rfl, hfit⟩, hB5⟩)
      go_ret2
      exact ⟨⟨_, _, rfl, hfit.num (can_cut hcd) HV.out⟩, HBB.out.trans (hB5.mono HBB.out.size)⟩

end Go.Proofs.Ytphhaaofkckobaa
