/-
  What the statement stands on.
-/
import Derived.Test.YtcdmojefheipoaaGreatDoorM29
namespace Go.Proofs.YtcdmojefheipoaaGreatDoor
open Go.RowKit
theorem dyx_half {x y : Rat} (h : DyX x) (g : DyX y) : DyX ((x + y) * (1 / 2)) := by
  have e1 : dq 1 (-1) = 1 / 2 := by decide +kernel
  rw [← e1]; exact (h.add g).mul (dyx_dq _ _)
theorem nbits_ge {p n : Nat} (h : 2 ^ n ≤ p) : n < nbits p := by
  have h0 : p ≠ 0 := by have := Nat.two_pow_pos n; omega
  obtain ⟨_, _, h3⟩ := nbits_spec h0
  exact (Nat.pow_lt_pow_iff_right (by decide : 1 < 2)).1 (Nat.lt_of_le_of_lt h h3)
theorem rnd_floor {m e p f : Int} {n : Nat} (hc : DyC m e) (hn : 2 ≤ n) (hb : nbits p.natAbs ≤ n) (h : dq p f ≤ dq m e) : dq p f ≤ rnd m e n false := by
  by_cases h1 : nbits m.natAbs ≤ n
  · rw [rnd_same h1]; exact h
  · have hm : m % 2 = 1 := by
      rcases hc with ⟨h0, _⟩ | h0
      · subst h0; exact absurd (by simp [nbits]) h1
      · exact h0
    obtain ⟨v, hv⟩ : ∃ v, nbits m.natAbs - n = v := ⟨_, rfl⟩
    obtain ⟨q, r, e1, e2, h3, h4⟩ := rnd_parts hm v (by omega)
    unfold rnd rndI
    rw [if_neg h1, hv, e1, if_neg (by decide), Int.add_zero]
    obtain ⟨_, a2, _⟩ := nbits_spec (n := m.natAbs) (by omega)
    rw [show nbits m.natAbs - 1 = (n - 1) + v by omega, Nat.pow_add] at a2
    apply Rat.not_lt.1
    intro hlt
    have hD0 := Nat.two_pow_pos v
    obtain ⟨D, hD⟩ : ∃ D : Nat, 2 ^ v = D := ⟨_, rfl⟩
    obtain ⟨G, hG⟩ : ∃ G : Nat, 2 ^ (n - 1) = G := ⟨_, rfl⟩
    rw [hD] at e2 h4 a2 hD0
    rw [hG] at a2
    by_cases hfe : e + v ≤ f
    · obtain ⟨k, hk⟩ : ∃ k : Nat, f = e + v + k := ⟨(f - (e + v)).toNat, by omega⟩
      rw [hk, ← dq_shift p (e + v) k] at hlt h
      rw [dq_lt] at hlt
      rw [← dq_shift _ e v, dq_le, hD] at h
      have h5 : (q + 1) * (D : Int) ≤ p * ((2 ^ k : Nat) : Int) * (D : Int) := Int.mul_le_mul_of_nonneg_right (by omega) (by omega)
      rw [Int.add_mul, Int.one_mul] at h5
      omega
    · obtain ⟨k, hk⟩ : ∃ k : Nat, e + v = f + ((k + 1 : Nat) : Int) := ⟨(e + v - f).toNat - 1, by omega⟩
      have hM : m.natAbs = m.natAbs := rfl
      have big : (G : Int) * ((2 ^ (k + 1) : Nat) : Int) ≤ (p.natAbs : Int) := by
        rcases Int.lt_or_le m 0 with hm0 | hm0
        · have h6 : m ≤ -(G : Int) * (D : Int) := by
            rw [Int.neg_mul, ← Int.natCast_mul]; omega
          have h7 : dq m e ≤ dq (-(G : Int)) (e + v) := by rw [← dq_shift (-(G : Int)) e v, dq_le, hD]; exact h6
          rw [hk, ← dq_shift (-(G : Int)) f (k + 1)] at h7
          have h8 := (dq_le p _ f).1 (Rat.le_trans h h7)
          rw [Int.neg_mul] at h8
          have : (0 : Int) ≤ (G : Int) * ((2 ^ (k + 1) : Nat) : Int) := by rw [← Int.natCast_mul]; omega
          omega
        · have h6 : (G : Int) ≤ q := by
            apply Int.not_lt.1
            intro hq
            have h7 : (q + 1) * (D : Int) ≤ (G : Int) * (D : Int) := Int.mul_le_mul_of_nonneg_right (by omega) (by omega)
            rw [Int.add_mul, Int.one_mul] at h7
            rw [← Int.natCast_mul] at h7
            omega
          rw [hk, ← dq_shift q f (k + 1), dq_lt] at hlt
          have h7 : (G : Int) * ((2 ^ (k + 1) : Nat) : Int) ≤ q * ((2 ^ (k + 1) : Nat) : Int) := Int.mul_le_mul_of_nonneg_right h6 (Int.natCast_nonneg _)
          omega
      have h9 : 2 ^ n ≤ p.natAbs := by
        rw [← Int.natCast_mul] at big
        have : G * 2 ^ (k + 1) = 2 ^ n * 2 ^ k := by
          have e9 : n - 1 + (k + 1) = n + k := by omega
          rw [← hG, ← Nat.pow_add, e9, Nat.pow_add]
        rw [this] at big
        have h10 : 2 ^ n ≤ 2 ^ n * 2 ^ k := Nat.le_mul_of_pos_right _ (Nat.two_pow_pos k)
        omega
      have := nbits_ge h9
      omega
theorem rndI_neg {m : Int} (hm : m % 2 = 1) {v : Nat} (hv : 1 ≤ v) : rndI (-m) v true = -(rndI m v false) := by
  obtain ⟨q, r, e1, e2, h3, h4⟩ := rnd_parts hm v hv
  have hm' : (-m) % 2 = 1 := by omega
  obtain ⟨q', r', e1', e2', h3', h4'⟩ := rnd_parts hm' v hv
  unfold rndI
  rw [e1, e1', if_pos rfl, if_neg (by decide), Int.add_zero]
  obtain ⟨D, hD⟩ : ∃ D : Nat, 2 ^ v = D := ⟨_, rfl⟩
  rw [hD] at e2 e2' h4 h4'
  have h5 : (q' + q) * (D : Int) = -r - r' := by rw [Int.add_mul]; omega
  have hD0 : (0 : Int) < (D : Int) := by omega
  have h6 : q' + q < 0 := by
    apply Int.not_le.1; intro h
    have := Int.mul_nonneg h (show (0 : Int) ≤ (D : Int) by omega)
    omega
  have h7 : -2 < q' + q := by
    apply Int.not_le.1; intro h
    have h8 : (q' + q) * (D : Int) ≤ (-2) * (D : Int) := Int.mul_le_mul_of_nonneg_right h (by omega)
    omega
  omega
theorem rnd_negup {m e : Int} (hc : DyC m e) (n : Nat) : rnd (-m) e n true = -(rnd m e n false) := by
  unfold rnd
  rw [Int.natAbs_neg]
  by_cases h1 : nbits m.natAbs ≤ n
  · rw [if_pos h1, if_pos h1, dq_neg]
  · have hm : m % 2 = 1 := by
      rcases hc with ⟨h0, _⟩ | h0
      · subst h0; exact absurd (by simp [nbits]) h1
      · exact h0
    rw [if_neg h1, if_neg h1, dq_neg, rndI_neg hm (by omega)]
theorem rnd_ceil {m e p f : Int} {n : Nat} (hc : DyC m e) (hn : 2 ≤ n) (hb : nbits p.natAbs ≤ n) (h : dq m e ≤ dq p f) : rnd m e n true ≤ dq p f := by
  have h1 := rnd_floor hc.neg hn (p := -p) (f := f) (by rw [Int.natAbs_neg]; exact hb) (by rw [← dq_neg, ← dq_neg]; exact Rat.neg_le_neg h)
  have h2 := rnd_negup hc.neg n
  rw [Int.neg_neg] at h2
  rw [h2]
  rw [← dq_neg] at h1
  grind
theorem rq_mono {x y : Rat} (h : DyX x) (g : DyX y) (hxy : x ≤ y) {n : Nat} (hn : 2 ≤ n) (up : Bool) : rq x n up ≤ rq y n up := by
  cases up with
  | false =>
    obtain ⟨p, f, hp, hq⟩ := rq_dyx h n false
    have hb := rq_few h hn false p f hp hq
    obtain ⟨m, e, hc, hy⟩ := g
    rw [← rq_is n false hc hy, ← hq]
    refine rnd_floor hc hn hb ?_
    rw [hq, hy]; exact Rat.le_trans (rq_le h n) hxy
  | true =>
    obtain ⟨p, f, hp, hq⟩ := rq_dyx g n true
    have hb := rq_few g hn true p f hp hq
    obtain ⟨m, e, hc, hx⟩ := h
    rw [← rq_is n true hc hx, ← hq]
    refine rnd_ceil hc hn hb ?_
    rw [hq, hx]; exact Rat.le_trans hxy (rq_ge g n)
theorem mul_nest {x y u v x' y' u' v' : Rat} (h1 : x ≤ x') (h2 : x' ≤ y') (h3 : y' ≤ y) (g1 : u ≤ u') (g2 : u' ≤ v') (g3 : v' ≤ v) : loM x y u v ≤ loM x' y' u' v' ∧ hiM x' y' u' v' ≤ hiM x y u v := by
  have a1 := mul_between h1 (Rat.le_trans h2 h3) g1 (Rat.le_trans g2 g3)
  have a2 := mul_between h1 (Rat.le_trans h2 h3) (Rat.le_trans g1 g2) g3
  have a3 := mul_between (Rat.le_trans h1 h2) h3 g1 (Rat.le_trans g2 g3)
  have a4 := mul_between (Rat.le_trans h1 h2) h3 (Rat.le_trans g1 g2) g3
  constructor
  · rcases loM_or x' y' u' v' with h | h | h | h <;> rw [h] <;> grind
  · rcases hiM_or x' y' u' v' with h | h | h | h <;> rw [h] <;> grind
end Go.Proofs.YtcdmojefheipoaaGreatDoor
