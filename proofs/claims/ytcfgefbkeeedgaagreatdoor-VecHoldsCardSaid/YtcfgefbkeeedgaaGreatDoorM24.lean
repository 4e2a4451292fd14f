/-
  What the statement stands on.
-/
import Derived.Test.YtcfgefbkeeedgaaGreatDoorM22
namespace Go.Proofs.YtcfgefbkeeedgaaGreatDoor
open Go.RowKit
theorem dq_sub (x y e : Int) : dq x e - dq y e = dq (x - y) e := by rw [Rat.sub_eq_add_neg, dq_neg, dq_add, ← Int.sub_eq_add_neg]
theorem rndZ_even {z f : Int} {n : Nat} (hn1 : 1 ≤ n) (hz : z.natAbs ≤ 2 ^ (n + 1)) (up : Bool) : ∃ y : Int, rndZ z f n up = dq y f ∧ (z.natAbs < 2 ^ n → y = z) ∧ (2 ^ n ≤ z.natAbs → y % 2 = 0 ∧ (up = false → y ≤ z ∧ z ≤ y + 1) ∧ (up = true → z ≤ y ∧ y ≤ z + 1)) := by
  have h2n := Nat.two_pow_pos n
  have h2n1 : 2 ^ (n + 1) = 2 * 2 ^ n := by rw [Nat.pow_succ, Nat.mul_comm]
  by_cases h1 : z.natAbs < 2 ^ n
  · refine ⟨z, ?_, fun _ => rfl, fun h => by omega⟩
    unfold rndZ
    rw [if_pos]
    rcases Nat.eq_zero_or_pos z.natAbs with h | h
    · rw [h]; simp [nbits]
    · exact nbits_pb (by omega) (by rw [PB_is]; exact h1)
  · have hnb : n < nbits z.natAbs := by
      apply Nat.lt_of_not_le
      intro h
      obtain ⟨_, _, h3⟩ := nbits_spec (n := z.natAbs) (by omega)
      have := Nat.pow_le_pow_right (n := 2) (by decide) h
      omega
    by_cases h3 : z.natAbs = 2 ^ (n + 1)
    · have hb : nbits z.natAbs = n + 2 := by
        rw [h3]
        exact nbits_of (by omega) (by simp) (by rw [Nat.pow_succ 2 (n + 1)]; omega)
      refine ⟨z, ?_, fun h => by omega, fun _ => ⟨by omega, fun _ => ⟨by omega, by omega⟩, fun _ => ⟨by omega, by omega⟩⟩⟩
      unfold rndZ
      rw [if_neg (by omega), hb, show n + 2 - n = 2 by omega]
      obtain ⟨g, hg⟩ : ∃ g : Int, z = g * 4 := by
        obtain ⟨u, hu⟩ : ∃ u, n = u + 1 := ⟨n - 1, by omega⟩
        rw [hu, Nat.pow_succ, Nat.pow_succ] at h3
        rcases Int.natAbs_eq z with h | h
        · exact ⟨((2 ^ u : Nat) : Int), by omega⟩
        · exact ⟨-((2 ^ u : Nat) : Int), by omega⟩
      have e1 : divI z ((2 ^ 2 : Nat) : Int) up = g := by
        unfold divI
        rw [hg, if_neg (by rintro ⟨_, h⟩; omega)]
        omega
      rw [e1, ← dq_shift, hg]
      rfl
    · have hb : nbits z.natAbs = n + 1 := nbits_of (by omega) (by rw [Nat.add_sub_cancel]; omega) (by omega)
      refine ⟨divI z 2 up * 2, ?_, fun h => by omega, fun _ => ⟨by omega, ?_⟩⟩
      · unfold rndZ
        rw [if_neg (by omega), hb, show n + 1 - n = 1 by omega, ← dq_shift]
        rfl
      · unfold divI
        constructor
        · intro h; subst h
          rw [if_neg (by rintro ⟨h, _⟩; cases h)]
          omega
        · intro h; subst h
          split
          · omega
          · rename_i h
            have : ¬ 0 < z % 2 := fun h' => h ⟨rfl, h'⟩
            omega
theorem dq_le_of {x y e : Int} (h : x ≤ y) : dq x e ≤ dq y e := (dq_le x y e).2 h
theorem quot_between {a : Rat} {N f : Int} {D : Nat} (hD : 0 < D) (h : a * ((D : Int) : Rat) = dq N f) :
    dq (N / (D : Int)) f ≤ a ∧ (N % (D : Int) = 0 → a = dq (N / (D : Int)) f) ∧ (0 < N % (D : Int) → dq (N / (D : Int)) f < a ∧ a < dq (N / (D : Int) + 1) f) := by
  have h1 := Int.emod_add_mul_ediv N (D : Int)
  have h2 := Int.emod_nonneg N (show (D : Int) ≠ 0 by omega)
  have h3 := Int.emod_lt_of_pos N (show (0 : Int) < (D : Int) by omega)
  generalize N / (D : Int) = q at *
  generalize N % (D : Int) = r at *
  have hDr : (0 : Rat) < ((D : Int) : Rat) := by
    have : ((0 : Int) : Rat) < ((D : Int) : Rat) := Rat.intCast_lt_intCast.2 (by omega)
    simpa using this
  have e1 : ∀ z : Int, dq z f * ((D : Int) : Rat) = dq (z * D) f := fun z => by
    unfold dq; rw [Rat.intCast_mul]; grind
  have key : ∀ z : Int, (dq z f < a ↔ z * D < N) ∧ (a < dq z f ↔ N < z * D) := fun z => by
    constructor
    · rw [← Rat.mul_lt_mul_right hDr, e1, h, dq_lt]
    · rw [← Rat.mul_lt_mul_right hDr, e1, h, dq_lt]
  have hN : N = q * D + r := by rw [Int.mul_comm]; omega
  refine ⟨?_, ?_, ?_⟩
  · apply Rat.not_lt.1
    intro h'
    have := (key q).2.1 h'
    omega
  · intro hr
    have a1 := (key q).1
    have a2 := (key q).2
    rcases rat_three a (dq q f) with h' | h' | h'
    · have := a2.1 h'; omega
    · exact h'
    · have := a1.1 h'; omega
  · intro hr
    refine ⟨(key q).1.2 (by omega), (key (q + 1)).2.2 ?_⟩
    rw [Int.add_mul]; omega
theorem even_near {n : Nat} (hn : 1 ≤ n) {q w u v r : Int} (hw : (r = 0 ∧ w = q) ∨ (0 < r ∧ w = q + 1))
    (u1 : q.natAbs < 2 ^ n → u = q) (u2 : 2 ^ n ≤ q.natAbs → u % 2 = 0 ∧ u ≤ q ∧ q ≤ u + 1) (v1 : w.natAbs < 2 ^ n → v = w) (v2 : 2 ^ n ≤ w.natAbs → v % 2 = 0 ∧ w ≤ v ∧ v ≤ w + 1) :
    u ≤ q ∧ w ≤ v ∧ v - u ≤ 2 ∧ (r = 0 → (u = q ↔ v = q)) := by
  have h2 : 2 ^ n % 2 = 0 := by
    obtain ⟨k, hk⟩ : ∃ k, n = k + 1 := ⟨n - 1, by omega⟩
    rw [hk, Nat.pow_succ, Nat.mul_mod_left]
  generalize 2 ^ n = c at *
  by_cases hq : q.natAbs < c <;> by_cases hw2 : w.natAbs < c
  · have a := u1 hq; have b := v1 hw2; omega
  · have a := u1 hq; have b := v2 (by omega); omega
  · have a := u2 (by omega); have b := v1 hw2; omega
  · have a := u2 (by omega); have b := v2 (by omega); omega
set_option maxHeartbeats 1000000 in
theorem near_core {a : Rat} {N f : Int} {D n : Nat} (hD : 0 < D) (h : a * ((D : Int) : Rat) = dq N f) (hn : 2 ≤ n) (h1 : N.natAbs < D * 2 ^ (n + 1)) (h2 : D * 2 ^ (n - 1) ≤ N.natAbs) (yl yh : Rat) (hl : rndZ (divI N (D : Int) false) f n false = yl) (hh : rndZ (divI N (D : Int) true) f n true = yh) :
    yl ≤ a ∧ a ≤ yh ∧ (yl = a ↔ yh = a) ∧ (yh - yl) * (((2 ^ (n - 2) : Nat) : Int) : Rat) ≤ a.abs := by
  obtain ⟨c1, c2, c3⟩ := quot_between hD h
  have b1 := divI_bits hD false h1
  have b2 := divI_bits hD true h1
  obtain ⟨u, hu, u1, u2⟩ := rndZ_even (f := f) (n := n) (by omega) b1 false
  obtain ⟨v, hv, v1, v2⟩ := rndZ_even (f := f) (n := n) (by omega) b2 true
  have e1 : divI N (D : Int) false = N / (D : Int) := by unfold divI; rw [if_neg (by rintro ⟨h, _⟩; cases h)]
  obtain ⟨w, hw⟩ : ∃ w, divI N (D : Int) true = w := ⟨_, rfl⟩
  have hw2 : w = if 0 < N % (D : Int) then N / (D : Int) + 1 else N / (D : Int) := by
    rw [← hw]; unfold divI
    by_cases h0 : 0 < N % (D : Int)
    · rw [if_pos ⟨rfl, h0⟩, if_pos h0]
    · rw [if_neg (by rintro ⟨_, h'⟩; exact h0 h'), if_neg h0]
  have hr := Int.emod_nonneg N (show (D : Int) ≠ 0 by omega)
  have hrlt := Int.emod_lt_of_pos N (show (0 : Int) < (D : Int) by omega)
  have hq := Int.emod_add_mul_ediv N (D : Int)
  rw [hl] at hu
  rw [hh] at hv
  rw [e1] at u1 u2
  rw [hw] at v1 v2
  generalize N / (D : Int) = q at *
  generalize N % (D : Int) = r at *
  have hrw : (r = 0 ∧ w = q) ∨ (0 < r ∧ w = q + 1) := by
    rcases Int.lt_or_eq_of_le hr with h0 | h0
    · exact .inr ⟨h0, by rw [hw2, if_pos h0]⟩
    · exact .inl ⟨h0.symm, by rw [hw2, if_neg (by omega)]⟩
  obtain ⟨g1, g2, g3, g4⟩ := even_near (by omega) hrw u1 (fun h => ⟨(u2 h).1, (u2 h).2.1 rfl⟩) v1 (fun h => ⟨(v2 h).1, (v2 h).2.2 rfl⟩)
  subst hu
  subst hv
  have a1 := dq_le_of (e := f) g1
  have a2 := dq_le_of (e := f) g2
  -- how great it is at least
  obtain ⟨c, hc⟩ : ∃ c : Nat, 2 ^ (n - 1) = c := ⟨_, rfl⟩
  have hc2 : (2 : Nat) * 2 ^ (n - 2) = c := by rw [← hc, show n - 1 = (n - 2) + 1 by omega, Nat.pow_succ, Nat.mul_comm]
  rw [hc] at h2
  have hNq : N = q * (D : Int) + r := by rw [Int.mul_comm]; omega
  have hDc : ((D * c : Nat) : Int) = (c : Int) * (D : Int) := by rw [Int.natCast_mul, Int.mul_comm]
  have hDI : (0 : Int) < (D : Int) := by omega
  have habs : dq (c : Int) f ≤ a.abs := by
    have hc0 : 0 < c := by rw [← hc]; exact Nat.two_pow_pos _
    have p0 : 0 < dq (c : Int) f := by have := (dq_lt 0 (c : Int) f).2 (by omega); rwa [dq_zero] at this
    rcases (show (c : Int) * D ≤ N ∨ N ≤ -((c : Int) * D) by omega) with k | k
    · have k1 : (c : Int) ≤ q := by
        apply Int.not_lt.1
        intro h'
        have k2 : (q + 1) * (D : Int) ≤ (c : Int) * (D : Int) := Int.mul_le_mul_of_nonneg_right (by omega) (by omega)
        have k3 : r < (D : Int) := hrlt
        rw [Int.add_mul] at k2
        omega
      have k4 := dq_le_of (e := f) k1
      rw [Rat.abs_of_nonneg (by grind)]
      grind
    · have k5 : a ≤ dq (-(c : Int)) f := by
        rcases hrw with ⟨x, _⟩ | ⟨x, _⟩
        · rw [c2 x]
          apply dq_le_of
          apply Int.not_lt.1
          intro h'
          have k2 : (-(c : Int) + 1) * (D : Int) ≤ q * (D : Int) := Int.mul_le_mul_of_nonneg_right (by omega) (by omega)
          rw [Int.add_mul, Int.neg_mul] at k2
          omega
        · have k6 : q + 1 ≤ -(c : Int) := by
            apply Int.not_lt.1
            intro h'
            have k2 : (-(c : Int)) * (D : Int) ≤ q * (D : Int) := Int.mul_le_mul_of_nonneg_right (by omega) (by omega)
            rw [Int.neg_mul] at k2
            omega
          have k7 := dq_le_of (e := f) k6
          have := (c3 x).2
          grind
      rw [← dq_neg] at k5
      rw [Rat.abs_of_nonpos (by grind)]
      grind
  have hgap : (dq v f - dq u f) * (((2 ^ (n - 2) : Nat) : Int) : Rat) ≤ a.abs := by
    have m1 : dq v f - dq u f ≤ dq 2 f := by rw [dq_sub]; exact dq_le_of g3
    have m2 : dq 2 f * (((2 ^ (n - 2) : Nat) : Int) : Rat) = dq (c : Int) f := by
      rw [← hc2]
      unfold dq
      rw [Int.natCast_mul, Rat.intCast_mul]
      grind
    have m3 : (0 : Rat) ≤ (((2 ^ (n - 2) : Nat) : Int) : Rat) := by
      have : ((0 : Int) : Rat) ≤ (((2 ^ (n - 2) : Nat) : Int) : Rat) := Rat.intCast_le_intCast.2 (by omega)
      simpa using this
    have m4 := Rat.mul_le_mul_of_nonneg_right m1 m3
    grind
  rcases hrw with ⟨x, y⟩ | ⟨x, y⟩
  · have ha := c2 x
    have hg := g4 x
    subst y
    refine ⟨by rw [ha]; exact a1, by rw [ha]; exact a2, ?_, hgap⟩
    rw [ha, dq_eq, dq_eq]
    exact hg
  · have hb := c3 x
    subst y
    refine ⟨by grind, by grind, ⟨fun h => ?_, fun h => ?_⟩, hgap⟩
    · exfalso; grind
    · exfalso; grind
theorem rnd_dyx (m e : Int) (n : Nat) (up : Bool) : DyX (rnd m e n up) := by
  unfold rnd
  split
  · exact dyx_dq _ _
  · exact dyx_dq _ _
section
variable {x1 x2 x3 x4 z y : Rat}
theorem dyx_zero : DyX 0 := ⟨0, 0, .inl ⟨rfl, rfl⟩, dq_zero 0⟩
end
theorem near_all {a : Rat} (h0 : a ≠ 0) {t d n : Nat} (ht : TailIs a.den t) (hd : a.den / 2 ^ t = d) (hn : 2 ≤ n) (yl yh : Rat) (hl : nearV a.num d t n false = yl) (hh : nearV a.num d t n true = yh) :
    yl ≤ a ∧ a ≤ yh ∧ (yl = a ↔ yh = a) ∧ (yh - yl) * (((2 ^ (n - 2) : Nat) : Int) : Rat) ≤ a.abs := by
  have hden0 := a.den_nz
  obtain ⟨dm, hdm⟩ : ∃ m : Nat, d = 2 * m + 1 ∧ a.den = 2 ^ t * d := by
    rcases ht with ⟨h, _⟩ | ⟨m, hm⟩
    · exact absurd h hden0
    · refine ⟨m, ?_, ?_⟩
      · rw [← hd, hm, Nat.mul_div_cancel_left _ (Nat.two_pow_pos t)]
      · rw [← hd, hm, Nat.mul_div_cancel_left _ (Nat.two_pow_pos t)]
  have hd0 : d ≠ 0 := by omega
  have hnum0 : a.num.natAbs ≠ 0 := by have := num_ne h0; omega
  obtain ⟨hP1, hP2, hP3⟩ := nbits_spec hnum0
  obtain ⟨hQ1, hQ2, hQ3⟩ := nbits_spec hd0
  have hbase : a * ((d : Int) : Rat) = dq a.num (-(t : Int)) := by
    have h1 : a * ((a.den : Int) : Rat) = (a.num : Rat) := by
      have e1 := Rat.num_divInt_den a
      rw [Rat.divInt_eq_div] at e1
      have e2 : ((a.den : Int) : Rat) ≠ 0 := by
        intro e
        have : (a.den : Int) = 0 := Rat.intCast_eq_zero_iff.1 e
        omega
      have e3 : (a.num : Rat) / ((a.den : Int) : Rat) * ((a.den : Int) : Rat) = (a.num : Rat) := Rat.div_mul_cancel e2
      rw [e1] at e3
      exact e3
    have h2 : ((a.den : Int) : Rat) = (((2 ^ t : Nat) : Int) : Rat) * ((d : Int) : Rat) := by rw [hdm.2, Int.natCast_mul, Rat.intCast_mul]
    have h3 : (((2 ^ t : Nat) : Int) : Rat) * (2 : Rat) ^ (-(t : Int)) = 1 := by
      rw [pow_nat, ← Rat.zpow_add two_ne, show (t : Int) + -(t : Int) = 0 by omega]; rfl
    unfold dq
    rw [← h1, h2]
    grind
  unfold nearV at hl hh
  generalize nbits a.num.natAbs = P at *
  generalize nbits d = Q at *
  by_cases hsh : P ≤ n + Q
  · obtain ⟨g, hg⟩ : ∃ g : Nat, (n : Int) + (Q : Int) - (P : Int) = (g : Int) := ⟨n + Q - P, by omega⟩
    rw [hg, show ((g : Int)).toNat = g from rfl, show (-(g : Int)).toNat = 0 by omega, Nat.pow_zero, show (d : Int) * ((1 : Nat) : Int) = (d : Int) by simp] at hl hh
    have hNa : (a.num * ((2 ^ g : Nat) : Int)).natAbs = a.num.natAbs * 2 ^ g := by rw [Int.natAbs_mul, Int.natAbs_natCast]
    refine near_core (D := d) (by omega) (f := -(g : Int) - (t : Int)) ?_ hn ?_ ?_ yl yh hl hh
    · rw [dq_shift, hbase]; congr 1; omega
    · rw [hNa]
      calc a.num.natAbs * 2 ^ g < 2 ^ P * 2 ^ g := Nat.mul_lt_mul_of_pos_right hP3 (Nat.two_pow_pos g)
        _ = 2 ^ (Q - 1) * 2 ^ (n + 1) := by rw [← Nat.pow_add, ← Nat.pow_add]; congr 1; omega
        _ ≤ d * 2 ^ (n + 1) := Nat.mul_le_mul_right _ hQ2
    · rw [hNa]
      calc d * 2 ^ (n - 1) ≤ 2 ^ Q * 2 ^ (n - 1) := Nat.mul_le_mul_right _ (Nat.le_of_lt hQ3)
        _ = 2 ^ (P - 1) * 2 ^ g := by rw [← Nat.pow_add, ← Nat.pow_add]; congr 1; omega
        _ ≤ a.num.natAbs * 2 ^ g := Nat.mul_le_mul_right _ hP2
  · obtain ⟨g, hg⟩ : ∃ g : Nat, (n : Int) + (Q : Int) - (P : Int) = -(g : Int) := ⟨P - (n + Q), by omega⟩
    rw [hg, show (-(g : Int)).toNat = 0 by omega, show (-(-(g : Int))).toNat = g by omega, Nat.pow_zero, show a.num * ((1 : Nat) : Int) = a.num by simp, show (d : Int) * ((2 ^ g : Nat) : Int) = ((d * 2 ^ g : Nat) : Int) by simp, show -(-(g : Int)) = (g : Int) by omega] at hl hh
    refine near_core (D := d * 2 ^ g) (Nat.mul_pos (by omega) (Nat.two_pow_pos g)) (f := (g : Int) - (t : Int)) ?_ hn ?_ ?_ yl yh hl hh
    · rw [Int.natCast_mul, Rat.intCast_mul, ← Rat.mul_assoc, hbase, pow_nat]
      unfold dq
      rw [Rat.mul_assoc, ← Rat.zpow_add two_ne]
      congr 2; omega
    · calc a.num.natAbs < 2 ^ P := hP3
        _ = 2 ^ (Q - 1) * 2 ^ g * 2 ^ (n + 1) := by rw [← Nat.pow_add, ← Nat.pow_add]; congr 1; omega
        _ ≤ d * 2 ^ g * 2 ^ (n + 1) := Nat.mul_le_mul_right _ (Nat.mul_le_mul_right _ hQ2)
    · calc d * 2 ^ g * 2 ^ (n - 1) ≤ 2 ^ Q * 2 ^ g * 2 ^ (n - 1) := Nat.mul_le_mul_right _ (Nat.mul_le_mul_right _ (Nat.le_of_lt hQ3))
        _ = 2 ^ (P - 1) := by rw [← Nat.pow_add, ← Nat.pow_add]; congr 1; omega
        _ ≤ a.num.natAbs := hP2
end Go.Proofs.YtcfgefbkeeedgaaGreatDoor
