/-
  What rounding does, as plain numbers. How near a ratio is to what is made of it by n bits, as plain numbers. Near a ratio: all that is asked of both, as plain numbers. dyad.Near both ways: what is asked of both. ratio.Check. ratio.Check of whatever is handed in. A ratio that is tried. ratio.Abs. dyad.Make and Check of numbers of any power; girdlelaw05.few.
-/
import Derived.Test.YtkokimlgofimmaaGreatDoorM14
import Derived.Test.YtkokimlgofimmaaGreatDoorM19
import Derived.Test.YtkokimlgofimmaaGreatDoorM20

namespace Go.Proofs.YtkokimlgofimmaaGreatDoor
open Go.RowKit

theorem dq_step (q r e : Int) (v : Nat) : dq (q * ((2 ^ v : Nat) : Int) + r) e = dq q (e + v) + dq r e := by rw [← dq_add, dq_shift]
theorem rnd_parts {m : Int} (hm : m % 2 = 1) (v : Nat) (hv : 1 ≤ v) : ∃ q r : Int, m / 2 ^ v = q ∧ m = q * ((2 ^ v : Nat) : Int) + r ∧ 0 < r ∧ r < ((2 ^ v : Nat) : Int) := by
  obtain ⟨d, hd⟩ : ∃ d : Nat, 2 ^ v = d := ⟨_, rfl⟩
  have hp : (2 : Int) ^ v = (d : Int) := by rw [← hd]; simp
  have hd0 : 0 < d := by rw [← hd]; exact Nat.two_pow_pos v
  have hd2 : d % 2 = 0 := by
    obtain ⟨u, hu⟩ : ∃ u, v = u + 1 := ⟨v - 1, by omega⟩
    rw [← hd, hu, Nat.pow_succ, Nat.mul_mod_left]
  rw [hp, hd]
  have h1 := Int.emod_add_mul_ediv m (d : Int)
  have h2 := Int.emod_nonneg m (show (d : Int) ≠ 0 by omega)
  have h3 := Int.emod_lt_of_pos m (show (0 : Int) < (d : Int) by omega)
  refine ⟨m / (d : Int), m % (d : Int), rfl, by rw [Int.mul_comm]; omega, ?_, h3⟩
  rcases Int.lt_or_eq_of_le h2 with h | h
  · exact h
  · exfalso
    have h4 := Int.dvd_of_emod_eq_zero h.symm
    obtain ⟨c, hc⟩ := h4
    obtain ⟨g, hg⟩ : ∃ g : Nat, d = 2 * g := ⟨d / 2, by omega⟩
    rw [hg, Int.natCast_mul, Int.mul_assoc] at hc
    omega
/-- Of a number of more bits: what is rounded lies beside it, by less than one in the last place. -/
theorem rnd_off {m e : Int} {n : Nat} (hc : DyC m e) (hn : n < nbits m.natAbs) (up : Bool) :
    (up = false → rnd m e n up < dq m e ∧ dq m e < rnd m e n up + dq 1 (e + ((nbits m.natAbs - n : Nat) : Int))) ∧ (up = true → dq m e < rnd m e n up ∧ rnd m e n up - dq 1 (e + ((nbits m.natAbs - n : Nat) : Int)) < dq m e) := by
  have hm : m % 2 = 1 := by
    rcases hc with ⟨h, _⟩ | h
    · subst h; exact absurd hn (by simp [nbits])
    · exact h
  obtain ⟨v, hv⟩ : ∃ v, nbits m.natAbs - n = v := ⟨_, rfl⟩
  obtain ⟨q, r, h1, h2, h3, h4⟩ := rnd_parts hm v (by omega)
  unfold rnd rndI
  rw [if_neg (by omega), hv, h1]
  have e1 : dq m e = dq q (e + v) + dq r e := by conv => lhs; rw [h2]
                                                 exact dq_step q r e v
  have e2 : 0 < dq r e := by have := (dq_lt 0 r e).2 h3; rwa [dq_zero] at this
  have e3 : dq r e < dq 1 (e + v) := by rw [← dq_one_pow]; exact (dq_lt _ _ e).2 h4
  have e4 : dq (q + 1) (e + v) = dq q (e + v) + dq 1 (e + v) := (dq_add q 1 _).symm
  constructor
  · intro h; subst h
    rw [if_neg (by decide), Int.add_zero, e1]
    constructor <;> grind
  · intro h; subst h
    rw [if_pos rfl, e4, e1]
    constructor <;> grind
theorem rnd_same {m e : Int} {n : Nat} (hn : nbits m.natAbs ≤ n) (up : Bool) : rnd m e n up = dq m e := by unfold rnd; rw [if_pos hn]
/-- What is rounded has so few bits. -/
theorem rnd_few {m e p f : Int} {n : Nat} {up : Bool} (hn : 2 ≤ n) (hc : DyC m e) (hp : DyC p f) (h : dq p f = rnd m e n up) : nbits p.natAbs ≤ n := by
  by_cases h1 : nbits m.natAbs ≤ n
  · rw [rnd_same h1] at h
    rw [(dyc_uniq hp hc h).1]
    exact h1
  · obtain ⟨v, hv⟩ : ∃ v, nbits m.natAbs - n = v := ⟨_, rfl⟩
    have h2 := rndI_le m v up
    have hm0 : m.natAbs ≠ 0 := by intro e0; rw [e0] at h1; simp [nbits] at h1
    obtain ⟨_, _, h3⟩ := nbits_spec hm0
    rw [show nbits m.natAbs = n + v by omega, Nat.pow_add] at h3
    unfold rnd at h
    rw [if_neg h1, hv] at h
    have hz : (rndI m v up).natAbs ≤ 2 ^ n := by
      have h4 : (rndI m v up).natAbs * 2 ^ v < (2 ^ n + 1) * 2 ^ v := by rw [Nat.add_mul, Nat.one_mul]; omega
      have := Nat.lt_of_mul_lt_mul_right h4
      omega
    rcases hp with ⟨hp, _⟩ | hp
    · subst hp; simp [nbits]
    · obtain ⟨t, ht, _⟩ := dq_odd hp h
      have hp0 : p.natAbs ≠ 0 := by omega
      refine nbits_pb hp0 ?_
      rw [PB_is]
      rw [ht, Int.natAbs_mul, Int.natAbs_natCast] at hz
      have h5 := Nat.two_pow_pos t
      have h6 : p.natAbs ≤ p.natAbs * 2 ^ t := Nat.le_mul_of_pos_right _ h5
      have h7 : 2 ^ n % 2 = 0 := by
        obtain ⟨u, hu⟩ : ∃ u, n = u + 1 := ⟨n - 1, by omega⟩
        rw [hu, Nat.pow_succ, Nat.mul_mod_left]
      have h8 : p.natAbs % 2 = 1 := by omega
      omega
theorem dyf_top {m e : Int} {x : Rat} {L H : Nat} (h : DyF m e x L H) (h0 : m ≠ 0) : e + (nbits m.natAbs : Int) ≤ H := by
  have h1 := h.2.1.2
  have h2 := h.2.1.1
  obtain ⟨a1, a2, _⟩ := nbits_spec (n := m.natAbs) (by omega)
  rw [PB_is] at h1
  have h3 : 2 ^ (nbits m.natAbs - 1) * 2 ^ (e + (L : Int)).toNat < 2 ^ (H + L) := Nat.lt_of_le_of_lt (Nat.mul_le_mul_right _ a2) h1
  rw [← Nat.pow_add] at h3
  have := (Nat.pow_lt_pow_iff_right (by decide : 1 < 2)).1 h3
  omega

end Go.Proofs.YtkokimlgofimmaaGreatDoor

namespace Go.Proofs.YtkokimlgofimmaaGreatDoor
open Go.RowKit

/-- Of no more than n+1 bits, or the power itself: rounded, it is itself, or the even number beside it. -/
theorem rndZ_even {z f : Int} {n : Nat} (hn1 : 1 ≤ n) (hz : z.natAbs ≤ 2 ^ (n + 1)) (up : Bool) : ∃ y : Int, rndZ z f n up = dq y f ∧ (z.natAbs < 2 ^ n → y = z) ∧ (2 ^ n ≤ z.natAbs → y % 2 = 0 ∧ (up = false → y ≤ z ∧ z ≤ y + 1) ∧ (up = true → z ≤ y ∧ y ≤ z + 1)) := by
  have h2n := Nat.two_pow_pos n
  have h2n1 : 2 ^ (n + 1) = 2 * 2 ^ n := by rw [Nat.pow_succ, Nat.mul_comm]
  by_cases h1 : z.natAbs < 2 ^ n
  · refine ⟨z, ?_, fun _ => rfl, fun h => by omega⟩
    unfold rndZ
    rw [if_pos]
    rcases Nat.eq_zero_or_pos z.natAbs with h | h
    · rw [h]; simp [nbits]
    · exact nbits_pb (by omega) (by rw [PB_is]; exact h1)
  · have hnb : n < nbits z.natAbs := by
      apply Nat.lt_of_not_le
      intro h
      obtain ⟨_, _, h3⟩ := nbits_spec (n := z.natAbs) (by omega)
      have := Nat.pow_le_pow_right (n := 2) (by decide) h
      omega
    by_cases h3 : z.natAbs = 2 ^ (n + 1)
    · have hb : nbits z.natAbs = n + 2 := by
        rw [h3]
        exact nbits_of (by omega) (by simp) (by rw [Nat.pow_succ 2 (n + 1)]; omega)
      refine ⟨z, ?_, fun h => by omega, fun _ => ⟨by omega, fun _ => ⟨by omega, by omega⟩, fun _ => ⟨by omega, by omega⟩⟩⟩
      unfold rndZ
      rw [if_neg (by omega), hb, show n + 2 - n = 2 by omega]
      obtain ⟨g, hg⟩ : ∃ g : Int, z = g * 4 := by
        obtain ⟨u, hu⟩ : ∃ u, n = u + 1 := ⟨n - 1, by omega⟩
        rw [hu, Nat.pow_succ, Nat.pow_succ] at h3
        rcases Int.natAbs_eq z with h | h
        · exact ⟨((2 ^ u : Nat) : Int), by omega⟩
        · exact ⟨-((2 ^ u : Nat) : Int), by omega⟩
      have e1 : divI z ((2 ^ 2 : Nat) : Int) up = g := by
        unfold divI
        rw [hg, if_neg (by rintro ⟨_, h⟩; omega)]
        omega
      rw [e1, ← dq_shift, hg]
      rfl
    · have hb : nbits z.natAbs = n + 1 := nbits_of (by omega) (by rw [Nat.add_sub_cancel]; omega) (by omega)
      refine ⟨divI z 2 up * 2, ?_, fun h => by omega, fun _ => ⟨by omega, ?_⟩⟩
      · unfold rndZ
        rw [if_neg (by omega), hb, show n + 1 - n = 1 by omega, ← dq_shift]
        rfl
      · unfold divI
        constructor
        · intro h; subst h
          rw [if_neg (by rintro ⟨h, _⟩; cases h)]
          omega
        · intro h; subst h
          split
          · omega
          · rename_i h
            have : ¬ 0 < z % 2 := fun h' => h ⟨rfl, h'⟩
            omega

theorem canon_ex (z f : Int) : ∃ m e : Int, DyC m e ∧ dq m e = dq z f := by
  by_cases h0 : z = 0
  · subst h0
    exact ⟨0, 0, .inl ⟨rfl, rfl⟩, by rw [dq_zero, dq_zero]⟩
  · obtain ⟨t, ht⟩ := tail_ex z.natAbs (by omega)
    obtain ⟨o, h1, h2, _, _⟩ := tail_odd h0 ht
    exact ⟨o, f + t, .inr h1, by conv => rhs; rw [h2]
                                 rw [dq_shift]⟩
theorem rndZ_few {z f p g : Int} {n : Nat} {up : Bool} (hn : 2 ≤ n) (hp : DyC p g) (h : dq p g = rndZ z f n up) : nbits p.natAbs ≤ n := by
  obtain ⟨m, e, hc, he⟩ := canon_ex z f
  exact rnd_few hn hc hp (h.trans (rnd_canon hc he n up).symm)
theorem dq_le_of {x y e : Int} (h : x ≤ y) : dq x e ≤ dq y e := (dq_le x y e).2 h
/-- What lies between a quotient rounded down and up. -/
theorem quot_between {a : Rat} {N f : Int} {D : Nat} (hD : 0 < D) (h : a * ((D : Int) : Rat) = dq N f) :
    dq (N / (D : Int)) f ≤ a ∧ (N % (D : Int) = 0 → a = dq (N / (D : Int)) f) ∧ (0 < N % (D : Int) → dq (N / (D : Int)) f < a ∧ a < dq (N / (D : Int) + 1) f) := by
  have h1 := Int.emod_add_mul_ediv N (D : Int)
  have h2 := Int.emod_nonneg N (show (D : Int) ≠ 0 by omega)
  have h3 := Int.emod_lt_of_pos N (show (0 : Int) < (D : Int) by omega)
  generalize N / (D : Int) = q at *
  generalize N % (D : Int) = r at *
  have hDr : (0 : Rat) < ((D : Int) : Rat) := by
    have : ((0 : Int) : Rat) < ((D : Int) : Rat) := Rat.intCast_lt_intCast.2 (by omega)
    simpa using this
  have e1 : ∀ z : Int, dq z f * ((D : Int) : Rat) = dq (z * D) f := fun z => by
    unfold dq; rw [Rat.intCast_mul]; grind
  have key : ∀ z : Int, (dq z f < a ↔ z * D < N) ∧ (a < dq z f ↔ N < z * D) := fun z => by
    constructor
    · rw [← Rat.mul_lt_mul_right hDr, e1, h, dq_lt]
    · rw [← Rat.mul_lt_mul_right hDr, e1, h, dq_lt]
  have hN : N = q * D + r := by rw [Int.mul_comm]; omega
  refine ⟨?_, ?_, ?_⟩
  · apply Rat.not_lt.1
    intro h'
    have := (key q).2.1 h'
    omega
  · intro hr
    have a1 := (key q).1
    have a2 := (key q).2
    rcases rat_three a (dq q f) with h' | h' | h'
    · have := a2.1 h'; omega
    · exact h'
    · have := a1.1 h'; omega
  · intro hr
    refine ⟨(key q).1.2 (by omega), (key (q + 1)).2.2 ?_⟩
    rw [Int.add_mul]; omega

theorem even_near {n : Nat} (hn : 1 ≤ n) {q w u v r : Int} (hw : (r = 0 ∧ w = q) ∨ (0 < r ∧ w = q + 1))
    (u1 : q.natAbs < 2 ^ n → u = q) (u2 : 2 ^ n ≤ q.natAbs → u % 2 = 0 ∧ u ≤ q ∧ q ≤ u + 1) (v1 : w.natAbs < 2 ^ n → v = w) (v2 : 2 ^ n ≤ w.natAbs → v % 2 = 0 ∧ w ≤ v ∧ v ≤ w + 1) :
    u ≤ q ∧ w ≤ v ∧ v - u ≤ 2 ∧ (r = 0 → (u = q ↔ v = q)) := by
  have h2 : 2 ^ n % 2 = 0 := by
    obtain ⟨k, hk⟩ : ∃ k, n = k + 1 := ⟨n - 1, by omega⟩
    rw [hk, Nat.pow_succ, Nat.mul_mod_left]
  generalize 2 ^ n = c at *
  by_cases hq : q.natAbs < c <;> by_cases hw2 : w.natAbs < c
  · have a := u1 hq; have b := v1 hw2; omega
  · have a := u1 hq; have b := v2 (by omega); omega
  · have a := u2 (by omega); have b := v1 hw2; omega
  · have a := u2 (by omega); have b := v2 (by omega); omega
set_option maxHeartbeats 1000000 in
/-- Rounded down and up to n bits: between, the same just if it is one of them, and near. -/
theorem near_core {a : Rat} {N f : Int} {D n : Nat} (hD : 0 < D) (h : a * ((D : Int) : Rat) = dq N f) (hn : 2 ≤ n) (h1 : N.natAbs < D * 2 ^ (n + 1)) (h2 : D * 2 ^ (n - 1) ≤ N.natAbs) (yl yh : Rat) (hl : rndZ (divI N (D : Int) false) f n false = yl) (hh : rndZ (divI N (D : Int) true) f n true = yh) :
    yl ≤ a ∧ a ≤ yh ∧ (yl = a ↔ yh = a) ∧ (yh - yl) * (((2 ^ (n - 2) : Nat) : Int) : Rat) ≤ a.abs := by
  obtain ⟨c1, c2, c3⟩ := quot_between hD h
  have b1 := divI_bits hD false h1
  have b2 := divI_bits hD true h1
  obtain ⟨u, hu, u1, u2⟩ := rndZ_even (f := f) (n := n) (by omega) b1 false
  obtain ⟨v, hv, v1, v2⟩ := rndZ_even (f := f) (n := n) (by omega) b2 true
  have e1 : divI N (D : Int) false = N / (D : Int) := by unfold divI; rw [if_neg (by rintro ⟨h, _⟩; cases h)]
  obtain ⟨w, hw⟩ : ∃ w, divI N (D : Int) true = w := ⟨_, rfl⟩
  have hw2 : w = if 0 < N % (D : Int) then N / (D : Int) + 1 else N / (D : Int) := by
    rw [← hw]; unfold divI
    by_cases h0 : 0 < N % (D : Int)
    · rw [if_pos ⟨rfl, h0⟩, if_pos h0]
    · rw [if_neg (by rintro ⟨_, h'⟩; exact h0 h'), if_neg h0]
  have hr := Int.emod_nonneg N (show (D : Int) ≠ 0 by omega)
  have hrlt := Int.emod_lt_of_pos N (show (0 : Int) < (D : Int) by omega)
  have hq := Int.emod_add_mul_ediv N (D : Int)
  rw [hl] at hu
  rw [hh] at hv
  rw [e1] at u1 u2
  rw [hw] at v1 v2
  generalize N / (D : Int) = q at *
  generalize N % (D : Int) = r at *
  have hrw : (r = 0 ∧ w = q) ∨ (0 < r ∧ w = q + 1) := by
    rcases Int.lt_or_eq_of_le hr with h0 | h0
    · exact .inr ⟨h0, by rw [hw2, if_pos h0]⟩
    · exact .inl ⟨h0.symm, by rw [hw2, if_neg (by omega)]⟩
  obtain ⟨g1, g2, g3, g4⟩ := even_near (by omega) hrw u1 (fun h => ⟨(u2 h).1, (u2 h).2.1 rfl⟩) v1 (fun h => ⟨(v2 h).1, (v2 h).2.2 rfl⟩)
  subst hu
  subst hv
  have a1 := dq_le_of (e := f) g1
  have a2 := dq_le_of (e := f) g2
  -- how great it is at least
  obtain ⟨c, hc⟩ : ∃ c : Nat, 2 ^ (n - 1) = c := ⟨_, rfl⟩
  have hc2 : (2 : Nat) * 2 ^ (n - 2) = c := by rw [← hc, show n - 1 = (n - 2) + 1 by omega, Nat.pow_succ, Nat.mul_comm]
  rw [hc] at h2
  have hNq : N = q * (D : Int) + r := by rw [Int.mul_comm]; omega
  have hDc : ((D * c : Nat) : Int) = (c : Int) * (D : Int) := by rw [Int.natCast_mul, Int.mul_comm]
  have hDI : (0 : Int) < (D : Int) := by omega
  have habs : dq (c : Int) f ≤ a.abs := by
    have hc0 : 0 < c := by rw [← hc]; exact Nat.two_pow_pos _
    have p0 : 0 < dq (c : Int) f := by have := (dq_lt 0 (c : Int) f).2 (by omega); rwa [dq_zero] at this
    rcases (show (c : Int) * D ≤ N ∨ N ≤ -((c : Int) * D) by omega) with k | k
    · have k1 : (c : Int) ≤ q := by
        apply Int.not_lt.1
        intro h'
        have k2 : (q + 1) * (D : Int) ≤ (c : Int) * (D : Int) := Int.mul_le_mul_of_nonneg_right (by omega) (by omega)
        have k3 : r < (D : Int) := hrlt
        rw [Int.add_mul] at k2
        omega
      have k4 := dq_le_of (e := f) k1
      rw [Rat.abs_of_nonneg (by grind)]
      grind
    · have k5 : a ≤ dq (-(c : Int)) f := by
        rcases hrw with ⟨x, _⟩ | ⟨x, _⟩
        · rw [c2 x]
          apply dq_le_of
          apply Int.not_lt.1
          intro h'
          have k2 : (-(c : Int) + 1) * (D : Int) ≤ q * (D : Int) := Int.mul_le_mul_of_nonneg_right (by omega) (by omega)
          rw [Int.add_mul, Int.neg_mul] at k2
          omega
        · have k6 : q + 1 ≤ -(c : Int) := by
            apply Int.not_lt.1
            intro h'
            have k2 : (-(c : Int)) * (D : Int) ≤ q * (D : Int) := Int.mul_le_mul_of_nonneg_right (by omega) (by omega)
            rw [Int.neg_mul] at k2
            omega
          have k7 := dq_le_of (e := f) k6
          have := (c3 x).2
          grind
      rw [← dq_neg] at k5
      rw [Rat.abs_of_nonpos (by grind)]
      grind
  have hgap : (dq v f - dq u f) * (((2 ^ (n - 2) : Nat) : Int) : Rat) ≤ a.abs := by
    have m1 : dq v f - dq u f ≤ dq 2 f := by rw [dq_sub]; exact dq_le_of g3
    have m2 : dq 2 f * (((2 ^ (n - 2) : Nat) : Int) : Rat) = dq (c : Int) f := by
      rw [← hc2]
      unfold dq
      rw [Int.natCast_mul, Rat.intCast_mul]
      grind
    have m3 : (0 : Rat) ≤ (((2 ^ (n - 2) : Nat) : Int) : Rat) := by
      have : ((0 : Int) : Rat) ≤ (((2 ^ (n - 2) : Nat) : Int) : Rat) := Rat.intCast_le_intCast.2 (by omega)
      simpa using this
    have m4 := Rat.mul_le_mul_of_nonneg_right m1 m3
    grind
  rcases hrw with ⟨x, y⟩ | ⟨x, y⟩
  · have ha := c2 x
    have hg := g4 x
    subst y
    refine ⟨by rw [ha]; exact a1, by rw [ha]; exact a2, ?_, hgap⟩
    rw [ha, dq_eq, dq_eq]
    exact hg
  · have hb := c3 x
    subst y
    refine ⟨by grind, by grind, ⟨fun h => ?_, fun h => ?_⟩, hgap⟩
    · exfalso; grind
    · exfalso; grind

end Go.Proofs.YtkokimlgofimmaaGreatDoor

namespace Go.Proofs.YtkokimlgofimmaaGreatDoor
open Go.RowKit

/-- Near a ratio: all that is asked of both. -/
theorem near_all {a : Rat} (h0 : a ≠ 0) {t d n : Nat} (ht : TailIs a.den t) (hd : a.den / 2 ^ t = d) (hn : 2 ≤ n) (yl yh : Rat) (hl : nearV a.num d t n false = yl) (hh : nearV a.num d t n true = yh) :
    yl ≤ a ∧ a ≤ yh ∧ (yl = a ↔ yh = a) ∧ (yh - yl) * (((2 ^ (n - 2) : Nat) : Int) : Rat) ≤ a.abs := by
  have hden0 := a.den_nz
  obtain ⟨dm, hdm⟩ : ∃ m : Nat, d = 2 * m + 1 ∧ a.den = 2 ^ t * d := by
    rcases ht with ⟨h, _⟩ | ⟨m, hm⟩
    · exact absurd h hden0
    · refine ⟨m, ?_, ?_⟩
      · rw [← hd, hm, Nat.mul_div_cancel_left _ (Nat.two_pow_pos t)]
      · rw [← hd, hm, Nat.mul_div_cancel_left _ (Nat.two_pow_pos t)]
  have hd0 : d ≠ 0 := by omega
  have hnum0 : a.num.natAbs ≠ 0 := by have := num_ne h0; omega
  obtain ⟨hP1, hP2, hP3⟩ := nbits_spec hnum0
  obtain ⟨hQ1, hQ2, hQ3⟩ := nbits_spec hd0
  have hbase : a * ((d : Int) : Rat) = dq a.num (-(t : Int)) := by
    have h1 : a * ((a.den : Int) : Rat) = (a.num : Rat) := by
      have e1 := Rat.num_divInt_den a
      rw [Rat.divInt_eq_div] at e1
      have e2 : ((a.den : Int) : Rat) ≠ 0 := by
        intro e
        have : (a.den : Int) = 0 := Rat.intCast_eq_zero_iff.1 e
        omega
      have e3 : (a.num : Rat) / ((a.den : Int) : Rat) * ((a.den : Int) : Rat) = (a.num : Rat) := Rat.div_mul_cancel e2
      rw [e1] at e3
      exact e3
    have h2 : ((a.den : Int) : Rat) = (((2 ^ t : Nat) : Int) : Rat) * ((d : Int) : Rat) := by rw [hdm.2, Int.natCast_mul, Rat.intCast_mul]
    have h3 : (((2 ^ t : Nat) : Int) : Rat) * (2 : Rat) ^ (-(t : Int)) = 1 := by
      rw [pow_nat, ← Rat.zpow_add two_ne, show (t : Int) + -(t : Int) = 0 by omega]; rfl
    unfold dq
    rw [← h1, h2]
    grind
  unfold nearV at hl hh
  generalize nbits a.num.natAbs = P at *
  generalize nbits d = Q at *
  by_cases hsh : P ≤ n + Q
  · obtain ⟨g, hg⟩ : ∃ g : Nat, (n : Int) + (Q : Int) - (P : Int) = (g : Int) := ⟨n + Q - P, by omega⟩
    rw [hg, show ((g : Int)).toNat = g from rfl, show (-(g : Int)).toNat = 0 by omega, Nat.pow_zero, show (d : Int) * ((1 : Nat) : Int) = (d : Int) by simp] at hl hh
    have hNa : (a.num * ((2 ^ g : Nat) : Int)).natAbs = a.num.natAbs * 2 ^ g := by rw [Int.natAbs_mul, Int.natAbs_natCast]
    refine near_core (D := d) (by omega) (f := -(g : Int) - (t : Int)) ?_ hn ?_ ?_ yl yh hl hh
    · rw [dq_shift, hbase]; congr 1; omega
    · rw [hNa]
      calc a.num.natAbs * 2 ^ g < 2 ^ P * 2 ^ g := Nat.mul_lt_mul_of_pos_right hP3 (Nat.two_pow_pos g)
        _ = 2 ^ (Q - 1) * 2 ^ (n + 1) := by rw [← Nat.pow_add, ← Nat.pow_add]; congr 1; omega
        _ ≤ d * 2 ^ (n + 1) := Nat.mul_le_mul_right _ hQ2
    · rw [hNa]
      calc d * 2 ^ (n - 1) ≤ 2 ^ Q * 2 ^ (n - 1) := Nat.mul_le_mul_right _ (Nat.le_of_lt hQ3)
        _ = 2 ^ (P - 1) * 2 ^ g := by rw [← Nat.pow_add, ← Nat.pow_add]; congr 1; omega
        _ ≤ a.num.natAbs * 2 ^ g := Nat.mul_le_mul_right _ hP2
  · obtain ⟨g, hg⟩ : ∃ g : Nat, (n : Int) + (Q : Int) - (P : Int) = -(g : Int) := ⟨P - (n + Q), by omega⟩
    rw [hg, show (-(g : Int)).toNat = 0 by omega, show (-(-(g : Int))).toNat = g by omega, Nat.pow_zero, show a.num * ((1 : Nat) : Int) = a.num by simp, show (d : Int) * ((2 ^ g : Nat) : Int) = ((d * 2 ^ g : Nat) : Int) by simp, show -(-(g : Int)) = (g : Int) by omega] at hl hh
    refine near_core (D := d * 2 ^ g) (Nat.mul_pos (by omega) (Nat.two_pow_pos g)) (f := (g : Int) - (t : Int)) ?_ hn ?_ ?_ yl yh hl hh
    · rw [Int.natCast_mul, Rat.intCast_mul, ← Rat.mul_assoc, hbase, pow_nat]
      unfold dq
      rw [Rat.mul_assoc, ← Rat.zpow_add two_ne]
      congr 2; omega
    · calc a.num.natAbs < 2 ^ P := hP3
        _ = 2 ^ (Q - 1) * 2 ^ g * 2 ^ (n + 1) := by rw [← Nat.pow_add, ← Nat.pow_add]; congr 1; omega
        _ ≤ d * 2 ^ g * 2 ^ (n + 1) := Nat.mul_le_mul_right _ (Nat.mul_le_mul_right _ hQ2)
    · calc d * 2 ^ g * 2 ^ (n - 1) ≤ 2 ^ Q * 2 ^ g * 2 ^ (n - 1) := Nat.mul_le_mul_right _ (Nat.mul_le_mul_right _ (Nat.le_of_lt hQ3))
        _ = 2 ^ (P - 1) := by rw [← Nat.pow_add, ← Nat.pow_add]; congr 1; omega
        _ ≤ a.num.natAbs := hP2

end Go.Proofs.YtkokimlgofimmaaGreatDoor

namespace Go.Proofs.YtkokimlgofimmaaGreatDoor
open Go.RowKit

/-- A number of no more than n bits. -/
def IsF (w : World) (v : Value) (x : Rat) (L H n : Nat) : Prop := ∃ b p l K m e, v = .agg #[.bool b, .slice p l K, .int .i64 e] ∧ Hid (negB m = b) ∧ IsNat w (.slice p l K) m.natAbs ∧ Hid (DyF m e x L H) ∧ Hid (nbits m.natAbs ≤ n)
theorem isf_zero (w : World) (L H n : Nat) : IsF w (.agg #[.bool false, .slice none 0 0, .int .i64 0]) 0 L H n := ⟨false, none, 0, 0, 0, 0, rfl, rfl, IsNat.zero _, DyF.zero _ _, show nbits 0 ≤ n by simp [nbits]⟩
theorem dnear_both {a : Rat} {k : Nat} (hak : RB a k) (n : Nat) (h2 : 2 ≤ n) (h4 : n ≤ 4096) (hk : 96 * k + n + 4 ≤ 16384) :
    ∃ yl yh : Rat, yl ≤ a ∧ a ≤ yh ∧ (yl = a ↔ yh = a) ∧ (yh - yl) * (((2 ^ (n - 2) : Nat) : Int) : Rat) ≤ a.abs ∧
    (∀ (va : Value) (w : World), Tab w → IsRat w va a → Calls Tryz.prog 23 #[va, .int .i64 n, .bool false] w fun ev w' => (∃ u, ev = .returned (.tuple #[u, .int .i64 0]) ∧ IsF w' u yl (n + 64 * k) (32 * k + 3) n) ∧ Below w.heap.size w w') ∧
    (∀ (va : Value) (w : World), Tab w → IsRat w va a → Calls Tryz.prog 23 #[va, .int .i64 n, .bool true] w fun ev w' => (∃ u, ev = .returned (.tuple #[u, .int .i64 0]) ∧ IsF w' u yh (n + 64 * k) (32 * k + 3) n) ∧ Below w.heap.size w w') := by
  by_cases h0 : a = 0
  · subst h0
    refine ⟨0, 0, by grind, by grind, Iff.rfl, ?_, fun va w _ ha => ?_, fun va w _ ha => ?_⟩
    · rw [Rat.abs_of_nonneg (by grind)]; grind
    · exact (dnear_zero ha n h2 h4 false).mono fun e w' h => ⟨⟨_, h.1, isf_zero _ _ _ _⟩, h.2⟩
    · exact (dnear_zero ha n h2 h4 true).mono fun e w' h => ⟨⟨_, h.1, isf_zero _ _ _ _⟩, h.2⟩
  · obtain ⟨t, ht⟩ := tail_ex a.den a.den_nz
    obtain ⟨d, hd⟩ : ∃ d, a.den / 2 ^ t = d := ⟨_, rfl⟩
    obtain ⟨yl, hl⟩ : ∃ y, nearV a.num d t n false = y := ⟨_, rfl⟩
    obtain ⟨yh, hh⟩ : ∃ y, nearV a.num d t n true = y := ⟨_, rfl⟩
    obtain ⟨f1, f2, f3, f4⟩ := near_all h0 ht hd h2 yl yh hl hh
    have few : ∀ {w : World} {v : Value} {y : Rat} {L H : Nat} {up : Bool}, nearV a.num d t n up = y → IsD w v y L H → IsF w v y L H n := by
      intro w v y L H up hy h
      obtain ⟨b, p, l, K, m, e, g1, g2, g3, g4⟩ := h
      refine ⟨b, p, l, K, m, e, g1, g2, g3, g4, ?_⟩
      exact rndZ_few h2 g4.out.1 (g4.out.2.2.trans hy.symm)
    refine ⟨yl, yh, f1, f2, f3, f4, fun va w hT ha => ?_, fun va w hT ha => ?_⟩
    · exact (dnear_any hT ha hak n h2 h4 false h0 t ht d hd hk yl hl).mono fun e w' ⟨⟨u, h1, h5⟩, h6⟩ => ⟨⟨u, h1, few hl h5⟩, h6⟩
    · exact (dnear_any hT ha hak n h2 h4 true h0 t ht d hd hk yh hh).mono fun e w' ⟨⟨u, h1, h5⟩, h6⟩ => ⟨⟨u, h1, few hh h5⟩, h6⟩

end Go.Proofs.YtkokimlgofimmaaGreatDoor

namespace Go.Proofs.YtkokimlgofimmaaGreatDoor
open Go.RowKit

set_option maxRecDepth 100000 in
set_option maxHeartbeats 4000000 in
theorem rcheck_any {va : Value} {x : Rat} {w : World} (ha : IsRat w va x) (hx : x.num.natAbs < maxN ∧ x.den < maxN) :
    Calls Tryz.prog 22 #[va] w fun e w' => e = .returned (.int .i64 0) ∧ Below w.heap.size w w' := by
  obtain ⟨b1, p1, l1, K1, q1, j1, J1, rfl, hb1, n1, d1⟩ := ha
  obtain ⟨t, ht⟩ : ∃ t, nbits x.den = t := ⟨_, rfl⟩
  have ht0 : ¬ t = 0 := by rw [← ht]; have := (nbits_spec x.den_nz).1; omega
  have htI : ((t : Int) == 0) = false := by simpa using ht0
  have htJ : ¬ (t : Int) = 0 := by omega
  have HX := Lib.hid hx
  have HD := Lib.hid (And.intro ht (show Nat.gcd x.num.natAbs x.den = 1 from x.reduced))
  clear hx ht
  have S := (St.start w).alloc 31 [.bool b1, .slice p1 l1 K1, .slice q1 j1 J1] (w.heap.size)
  try simp only [List.cons_append, List.nil_append] at S
  replace n1 := n1.hold S.hold
  replace d1 := d1.hold S.hold
  have c0_0 := S.c 0 0 rfl rfl
  have c0_1 := S.c 0 1 rfl rfl
  have c0_2 := S.c 0 2 rfl rfl
  go_enter Tryz.func22, Tryz.ntmps22
  go_upto_region 1 with fail
  clear c0_0 c0_1 c0_2
  generalize (w.alloc (.cells #[.bool b1, .slice p1 l1 K1, .slice q1 j1 J1] 31)) = w1 at S n1 d1 ⊢
  have HH := Hold.drew w1
  replace n1 := n1.hold HH
  replace d1 := d1.hold HH
  replace S := S.drew
  refine wp_region_held_drew (S := fun W => W.cell? ⟨w.heap.size, 0, none⟩ = some (.bool b1) ∧ W.cell? ⟨w.heap.size, 1, none⟩ = some (.slice p1 l1 K1) ∧ W.cell? ⟨w.heap.size, 2, none⟩ = some (.slice q1 j1 J1)) (by kernel_rfl) ⟨S.c 0 0 rfl rfl, S.c 0 1 rfl rfl, S.c 0 2 rfl rfl⟩ (fun hS => ?_)
  generalize w1.drew = w2 at S n1 d1 HH hS ⊢
  refine wpAnyH_take (i := 0) (v := ?_) ((List.getElem?_toArray ..).trans rfl) (by kernel_rfl) (by kernel_rfl) (by kernel_rfl) (fun _ _ _ h => h) (Or.inl ⟨rfl, fun W hW => ?_⟩) hS ?_
  rotate_left
  · obtain ⟨hW0, hW1, hW2⟩ := hW; go_simp; try first | rfl | (rw [if_neg (by first | omega | (simp only [ByteArray.size_append]; first | omega | (have h1 : (ByteArray.mk #[47]).size = 1 := rfl; omega)))]; try rfl) | kernel_rfl
  try simp only [Act.put, List.setIfInBounds_toArray, List.set_cons_zero, List.set_cons_succ]
  refine wpAnyH_take (i := 1) (v := ?_) ((List.getElem?_toArray ..).trans rfl) (by kernel_rfl) (by kernel_rfl) (by kernel_rfl) (fun _ _ _ h => h) (Or.inl ⟨rfl, fun W hW => ?_⟩) hS ?_
  rotate_left
  · obtain ⟨hW0, hW1, hW2⟩ := hW; go_simp; try first | rfl | (rw [if_neg (by first | omega | (simp only [ByteArray.size_append]; first | omega | (have h1 : (ByteArray.mk #[47]).size = 1 := rfl; omega)))]; try rfl) | kernel_rfl
  try simp only [Act.put, List.setIfInBounds_toArray, List.set_cons_zero, List.set_cons_succ]
  refine wpAnyH_take (i := 3) (v := ?_) ((List.getElem?_toArray ..).trans rfl) (by kernel_rfl) (by kernel_rfl) (by kernel_rfl) (fun _ _ _ h => h) (Or.inl ⟨rfl, fun W hW => ?_⟩) hS ?_
  rotate_left
  · obtain ⟨hW0, hW1, hW2⟩ := hW; go_simp; try first | rfl | (rw [if_neg (by first | omega | (simp only [ByteArray.size_append]; first | omega | (have h1 : (ByteArray.mk #[47]).size = 1 := rfl; omega)))]; try rfl) | kernel_rfl
  try simp only [Act.put, List.setIfInBounds_toArray, List.set_cons_zero, List.set_cons_succ]
  refine wpAnyH_take (i := 4) (v := ?_) ((List.getElem?_toArray ..).trans rfl) (by kernel_rfl) (by kernel_rfl) (by kernel_rfl) (fun _ _ _ h => h) (Or.inl ⟨rfl, fun W hW => ?_⟩) hS ?_
  rotate_left
  · obtain ⟨hW0, hW1, hW2⟩ := hW; go_simp; try first | rfl | (rw [if_neg (by first | omega | (simp only [ByteArray.size_append]; first | omega | (have h1 : (ByteArray.mk #[47]).size = 1 := rfl; omega)))]; try rfl) | kernel_rfl
  try simp only [Act.put, List.setIfInBounds_toArray, List.set_cons_zero, List.set_cons_succ]
  refine wpAnyH_ready (rs := [2]) (by kernel_rfl) (by simp) (AllReadyH.cons ((List.getElem?_toArray ..).trans rfl) (fun KK hKK => ?_) AllReadyH.nil)
  go_simp
  clear hS
  refine (S.call (wcheck_any ⟨_, _, _, by rw [hb1.out], n1⟩ HX.out.1)).mono ?_
  clear S
  rintro e w3 ⟨rfl, S, H⟩
  replace n1 := n1.hold H
  replace d1 := d1.hold H
  replace HH := HH.trans H
  clear H
  go_wp2_with fail
  refine hKK.out _ _ ⟨S.c 0 0 rfl rfl, S.c 0 1 rfl rfl, S.c 0 2 rfl rfl⟩ (fun hS => ?_)
  clear hKK KK
  try simp only [Act.put, List.setIfInBounds_toArray, List.set_cons_zero, List.set_cons_succ]
  refine wpAnyH_ready (rs := [5]) (by kernel_rfl) (by simp) (AllReadyH.cons ((List.getElem?_toArray ..).trans rfl) (fun KK hKK => ?_) AllReadyH.nil)
  go_simp
  clear hS
  refine (S.call (check_nat d1 HX.out.2)).mono ?_
  clear S
  rintro e w4 ⟨rfl, S, H⟩
  replace n1 := n1.hold H
  replace d1 := d1.hold H
  replace HH := HH.trans H
  clear H
  go_wp2_with fail
  refine hKK.out _ _ ⟨S.c 0 0 rfl rfl, S.c 0 1 rfl rfl, S.c 0 2 rfl rfl⟩ (fun hS => ?_)
  clear hKK KK
  try simp only [Act.put, List.setIfInBounds_toArray, List.set_cons_zero, List.set_cons_succ]
  refine wpAnyH_ready (rs := [6]) (by kernel_rfl) (by simp) (AllReadyH.cons ((List.getElem?_toArray ..).trans rfl) (fun KK hKK => ?_) AllReadyH.nil)
  go_simp
  clear hS
  have H := S.hnew 32 [.int .i64 0, .int .i64 0]
  replace S := S.alloc 32 [.int .i64 0, .int .i64 0] (w4.heap.size)
  try simp only [List.cons_append, List.nil_append] at S
  replace n1 := n1.hold H
  replace d1 := d1.hold H
  replace HH := HH.trans H
  clear H
  refine hKK.out _ _ ⟨S.c 0 0 rfl rfl, S.c 0 1 rfl rfl, S.c 0 2 rfl rfl⟩ (fun hS => ?_)
  generalize (w4.alloc (.cells #[.int .i64 0, .int .i64 0] 32)) = w5 at S n1 d1 HH hS ⊢
  clear hKK KK
  try simp only [Act.put, List.setIfInBounds_toArray, List.set_cons_zero, List.set_cons_succ]
  refine wpAnyH_ready (rs := [7]) (by kernel_rfl) (by simp) (AllReadyH.cons ((List.getElem?_toArray ..).trans rfl) (fun KK hKK => ?_) AllReadyH.nil)
  go_simp
  clear hS
  refine (S.call (or_two S 1 rfl)).mono ?_
  clear S
  rintro e w6 ⟨rfl, S, H⟩
  replace n1 := n1.hold H
  replace d1 := d1.hold H
  replace HH := HH.trans H
  clear H
  go_wp2_with fail
  refine hKK.out _ _ ⟨S.c 0 0 rfl rfl, S.c 0 1 rfl rfl, S.c 0 2 rfl rfl⟩ (fun hS => ?_)
  clear hKK KK
  try simp only [Act.put, List.setIfInBounds_toArray, List.set_cons_zero, List.set_cons_succ]
  refine wpAnyH_ready (rs := [8]) (by kernel_rfl) (by simp) (AllReadyH.cons ((List.getElem?_toArray ..).trans rfl) (fun KK hKK => ?_) AllReadyH.nil)
  go_simp
  refine hKK.out _ _ hS (fun hS => ?_)
  clear hKK KK
  try simp only [Act.put, List.setIfInBounds_toArray, List.set_cons_zero, List.set_cons_succ]
  refine wpAnyH_done (by kernel_rfl) ?_ _
  clear hS HH
  have c0_0 := S.c 0 0 rfl rfl
  have c0_1 := S.c 0 1 rfl rfl
  have c0_2 := S.c 0 2 rfl rfl
  go_wp2_with fail
  clear c0_0 c0_1 c0_2
  refine (S.call (bits_nat d1 HX.out.2 HD.out.1)).mono ?_
  clear S
  rintro e w7 ⟨rfl, S, H⟩
  replace n1 := n1.hold H
  replace d1 := d1.hold H
  clear H
  have c0_0 := S.c 0 0 rfl rfl
  have c0_1 := S.c 0 1 rfl rfl
  have c0_2 := S.c 0 2 rfl rfl
  go_wp2_with fail
  clear c0_0 c0_1 c0_2
  refine (S.call (gcd_any n1 d1 HX.out.1 HX.out.2)).mono ?_
  clear S
  rintro e w8 ⟨⟨v, rfl, nv⟩, S, H⟩
  replace n1 := n1.hold H
  replace d1 := d1.hold H
  clear H
  have c0_0 := S.c 0 0 rfl rfl
  have c0_1 := S.c 0 1 rfl rfl
  have c0_2 := S.c 0 2 rfl rfl
  rw [HD.out.2] at nv
  go_wp2_with fail
  clear c0_0 c0_1 c0_2
  refine (S.call (bits_nat nv (lit_max 1 (by decide)) (t := 1) rfl)).mono ?_
  clear S
  rintro e w9 ⟨rfl, S, H⟩
  replace n1 := n1.hold H
  replace d1 := d1.hold H
  replace nv := nv.hold H
  clear H
  have c0_0 := S.c 0 0 rfl rfl
  have c0_1 := S.c 0 1 rfl rfl
  have c0_2 := S.c 0 2 rfl rfl
  go_wp2_with fail
  exact bodyPost_ret (v := .int .i64 0) (by simp [results, Tryz.f22, go_sem]) rfl (⟨rfl, S.below⟩)

end Go.Proofs.YtkokimlgofimmaaGreatDoor

namespace Go.Proofs.YtkokimlgofimmaaGreatDoor
open Go.RowKit

set_option maxRecDepth 100000 in
set_option maxHeartbeats 1000000 in
/-- The first of some numbers that isn't nothing. -/
theorem or_list (g n : Nat) (E : Nat → Int) (w : World) (hg : g < w.heap.size) (hn : n ≤ 1000) (hs : ∀ j, j < n → w.cell? ⟨g, j, none⟩ = some (.int .i64 (E j))) :
    Calls Tryz.prog 78 #[.slice (some ⟨g, 0, none⟩) n n] w fun e w' => (∃ r, e = .returned (.int .i64 r) ∧ Hid (r = 0 → ∀ j, j < n → E j = 0)) ∧ Below w.heap.size w w' := by
  have HS := Lib.hid hs
  clear hs
  have S := St.start w
  try simp only [List.cons_append, List.nil_append] at S
  go_enter Tryz.func78, Tryz.ntmps78
  go_wp2_with fail
  go_loopw [8] (fun si wr => ∃ k : Nat, k ≤ n ∧ si = .int .i64 k ∧ Hid (∀ j, j < k → E j = 0) ∧ St w wr []) (fun si _ => n - (intOf si).toNat)
  case atStart => exact ⟨0, by omega, rfl, fun j hj => by omega, S⟩
  case round =>
    obtain ⟨k, hk, rfl, hz, S⟩ := hrel
    by_cases hlt : k < n
    · have a0 := (S.below.cell (p := ⟨g, k, none⟩) hg).trans (HS.out k hlt)
      have HL := Lib.hid hlt
      have hki : (k : Int) < ((n : Nat) : Int) := by omega
      obtain ⟨ek, hek⟩ : ∃ ek, E k = ek := ⟨_, rfl⟩
      have HE := Lib.hid hek
      rw [hek] at a0
      clear hlt hek
      by_cases h0 : ek = 0
      · have h0' : (ek != 0) = false := by rw [h0]; rfl
        have H0 := Lib.hid h0
        clear h0
        go_wp2_with fail
        go_roundw
        case rel =>
          refine ⟨k + 1, HL.out, by go_num, fun j hj => ?_, S⟩
          by_cases hjk : j = k
          · rw [hjk, HE.out, H0.out]
          · exact hz.out j (by omega)
        case measure => have := HL.out; simp [intOf]; omega
      · have h0' : (ek != 0) = true := by simpa using h0
        have H0 := Lib.hid h0
        clear h0
        go_wp2_with fail
        go_ret
        exact ⟨⟨ek, rfl, fun h => absurd h H0.out⟩, S.below⟩
    · have hge : ¬ (k : Int) < ((n : Nat) : Int) := by omega
      have HZ : ∀ j, j < n → E j = 0 := fun j hj => hz.out j (by omega)
      have HZ := Lib.hid HZ
      clear hlt hz
      go_wp2
      go_ret
      exact ⟨⟨0, rfl, fun _ => HZ.out⟩, S.below⟩

theorem or_pair {g : Nat} {w W : World} {L : List (Nat × TypeId × List Value)} (S : St w W L) (i : Nat) {t : TypeId} {c d : Int} (hi : L[i]? = some (g, t, [.int .i64 c, .int .i64 d])) :
    Calls Tryz.prog 78 #[.slice (some ⟨g, 0, none⟩) 2 2] W fun e w' => (∃ r, e = .returned (.int .i64 r) ∧ Hid (r = 0 → c = 0 ∧ d = 0)) ∧ Below W.heap.size W w' :=
  (or_list g 2 (fun j => [c, d].getD j 0) W (S.lt i hi) (by decide) fun j hj => by
    match j, hj with
    | 0, _ => exact S.c i 0 hi rfl
    | 1, _ => exact S.c i 1 hi rfl).mono fun e w' ⟨⟨r, he, hr⟩, hB⟩ => ⟨⟨r, he, fun h => ⟨hr.out h 0 (by decide), hr.out h 1 (by decide)⟩⟩, hB⟩

theorem check_rawN (p : Option Addr) (K l : Nat) (es : List Nat) (w : World) (hat : At .u32 w p K es) (hl : es.length = l) (h5 : l ≤ 1000000) (c : Int) (hc : ((checkOf es : Nat) : Int) = c) :
    Calls Tryz.prog 81 #[.slice p l K] w fun e w' => e = .returned (.int .i64 c) ∧ Below w.heap.size w w' := by
  subst hl; subst hc
  exact check_any hat.nums h5
/-- What may be a ratio. -/
def ValidR (b : Bool) (ds es : List Nat) : Prop := (cut ds = ds ∧ (b = true → ds ≠ [])) ∧ cut es = es ∧ val 4294967296 es ≠ 0 ∧ Nat.gcd (val 4294967296 ds) (val 4294967296 es) = 1
theorem check_cut {es : List Nat} (hl : es.length ≤ 512) (h : ((checkOf es : Nat) : Int) = 0) : cut es = es := by
  have hz : checkOf es = 0 := by omega
  unfold checkOf at hz
  rw [if_neg (by omega)] at hz
  split at hz
  · omega
  · rename_i h2
    have := cut_le es
    exact cut_full es (by omega)
theorem bits_le_one {g : Nat} (h0 : g ≠ 0) (h : ¬ 1 < nbits g) : g = 1 := by
  obtain ⟨h1, h2, h3⟩ := nbits_spec h0
  have : nbits g = 1 := by omega
  rw [this] at h3
  omega

set_option maxRecDepth 100000 in
set_option maxHeartbeats 4000000 in
theorem rcheck_raw (b : Bool) (p p' : Option Addr) (K K' l l' : Nat) (ds es : List Nat) (w : World) (at1 : At .u32 w p K ds) (at2 : At .u32 w p' K' es) (d1 : Dig 4294967296 ds) (d2 : Dig 4294967296 es) (hl : ds.length = l) (hl' : es.length = l') (h5 : l ≤ 512) (h5' : l' ≤ 512) :
    Calls Tryz.prog 22 #[.agg #[.bool b, .slice p l K, .slice p' l' K']] w fun e w' => (∃ c : Int, e = .returned (.int .i64 c) ∧ Hid (c = 0 → ValidR b ds es)) ∧ Below w.heap.size w w' := by
  obtain ⟨c2, hc2⟩ : ∃ c2 : Int, ((checkOf es : Nat) : Int) = c2 := ⟨_, rfl⟩
  have HD := Lib.hid (And.intro d1 (And.intro d2 (And.intro hl (And.intro hl' (And.intro h5 (And.intro h5' hc2))))))
  clear d1 d2 hl hl' h5 h5' hc2
  have S := (St.start w).alloc 31 [.bool b, .slice p l K, .slice p' l' K'] (w.heap.size)
  try simp only [List.cons_append, List.nil_append] at S
  replace at1 := at1.hold S.hold
  replace at2 := at2.hold S.hold
  have c0_0 := S.c 0 0 rfl rfl
  have c0_1 := S.c 0 1 rfl rfl
  have c0_2 := S.c 0 2 rfl rfl
  go_enter Tryz.func22, Tryz.ntmps22
  go_upto_region 1 with fail
  clear c0_0 c0_1 c0_2
  generalize (w.alloc (.cells #[.bool b, .slice p l K, .slice p' l' K'] 31)) = w1 at S at1 at2 ⊢
  have HH := Hold.drew w1
  replace at1 := at1.hold HH
  replace at2 := at2.hold HH
  replace S := S.drew
  refine wp_region_held_drew (S := fun W => W.cell? ⟨w.heap.size, 0, none⟩ = some (.bool b) ∧ W.cell? ⟨w.heap.size, 1, none⟩ = some (.slice p l K) ∧ W.cell? ⟨w.heap.size, 2, none⟩ = some (.slice p' l' K')) (by kernel_rfl) ⟨S.c 0 0 rfl rfl, S.c 0 1 rfl rfl, S.c 0 2 rfl rfl⟩ (fun hS => ?_)
  generalize w1.drew = w2 at S at1 at2 HH hS ⊢
  refine wpAnyH_take (i := 0) (v := ?_) ((List.getElem?_toArray ..).trans rfl) (by kernel_rfl) (by kernel_rfl) (by kernel_rfl) (fun _ _ _ h => h) (Or.inl ⟨rfl, fun W hW => ?_⟩) hS ?_
  rotate_left
  · obtain ⟨hW0, hW1, hW2⟩ := hW; go_simp; try first | rfl | (rw [if_neg (by first | omega | (simp only [ByteArray.size_append]; first | omega | (have h1 : (ByteArray.mk #[47]).size = 1 := rfl; omega)))]; try rfl) | kernel_rfl
  try simp only [Act.put, List.setIfInBounds_toArray, List.set_cons_zero, List.set_cons_succ]
  refine wpAnyH_take (i := 1) (v := ?_) ((List.getElem?_toArray ..).trans rfl) (by kernel_rfl) (by kernel_rfl) (by kernel_rfl) (fun _ _ _ h => h) (Or.inl ⟨rfl, fun W hW => ?_⟩) hS ?_
  rotate_left
  · obtain ⟨hW0, hW1, hW2⟩ := hW; go_simp; try first | rfl | (rw [if_neg (by first | omega | (simp only [ByteArray.size_append]; first | omega | (have h1 : (ByteArray.mk #[47]).size = 1 := rfl; omega)))]; try rfl) | kernel_rfl
  try simp only [Act.put, List.setIfInBounds_toArray, List.set_cons_zero, List.set_cons_succ]
  refine wpAnyH_take (i := 3) (v := ?_) ((List.getElem?_toArray ..).trans rfl) (by kernel_rfl) (by kernel_rfl) (by kernel_rfl) (fun _ _ _ h => h) (Or.inl ⟨rfl, fun W hW => ?_⟩) hS ?_
  rotate_left
  · obtain ⟨hW0, hW1, hW2⟩ := hW; go_simp; try first | rfl | (rw [if_neg (by first | omega | (simp only [ByteArray.size_append]; first | omega | (have h1 : (ByteArray.mk #[47]).size = 1 := rfl; omega)))]; try rfl) | kernel_rfl
  try simp only [Act.put, List.setIfInBounds_toArray, List.set_cons_zero, List.set_cons_succ]
  refine wpAnyH_take (i := 4) (v := ?_) ((List.getElem?_toArray ..).trans rfl) (by kernel_rfl) (by kernel_rfl) (by kernel_rfl) (fun _ _ _ h => h) (Or.inl ⟨rfl, fun W hW => ?_⟩) hS ?_
  rotate_left
  · obtain ⟨hW0, hW1, hW2⟩ := hW; go_simp; try first | rfl | (rw [if_neg (by first | omega | (simp only [ByteArray.size_append]; first | omega | (have h1 : (ByteArray.mk #[47]).size = 1 := rfl; omega)))]; try rfl) | kernel_rfl
  try simp only [Act.put, List.setIfInBounds_toArray, List.set_cons_zero, List.set_cons_succ]
  refine wpAnyH_ready (rs := [2]) (by kernel_rfl) (by simp) (AllReadyH.cons ((List.getElem?_toArray ..).trans rfl) (fun KK hKK => ?_) AllReadyH.nil)
  go_simp
  clear hS
  refine (S.call (wcheck_raw b p K l ds _ at1 HD.out.1 HD.out.2.2.1 HD.out.2.2.2.2.1)).mono ?_
  clear S
  rintro e w3 ⟨⟨c1, rfl, h1⟩, S, H⟩
  replace at1 := at1.hold H
  replace at2 := at2.hold H
  replace HH := HH.trans H
  clear H
  go_wp2_with fail
  refine hKK.out _ _ ⟨S.c 0 0 rfl rfl, S.c 0 1 rfl rfl, S.c 0 2 rfl rfl⟩ (fun hS => ?_)
  clear hKK KK
  try simp only [Act.put, List.setIfInBounds_toArray, List.set_cons_zero, List.set_cons_succ]
  refine wpAnyH_ready (rs := [5]) (by kernel_rfl) (by simp) (AllReadyH.cons ((List.getElem?_toArray ..).trans rfl) (fun KK hKK => ?_) AllReadyH.nil)
  go_simp
  clear hS
  refine (S.call (check_rawN p' K' l' es _ at2 HD.out.2.2.2.1 (by have := HD.out.2.2.2.2.2.1; omega) c2 HD.out.2.2.2.2.2.2)).mono ?_
  clear S
  rintro e w4 ⟨rfl, S, H⟩
  replace at1 := at1.hold H
  replace at2 := at2.hold H
  replace HH := HH.trans H
  clear H
  go_wp2_with fail
  refine hKK.out _ _ ⟨S.c 0 0 rfl rfl, S.c 0 1 rfl rfl, S.c 0 2 rfl rfl⟩ (fun hS => ?_)
  clear hKK KK
  try simp only [Act.put, List.setIfInBounds_toArray, List.set_cons_zero, List.set_cons_succ]
  refine wpAnyH_ready (rs := [6]) (by kernel_rfl) (by simp) (AllReadyH.cons ((List.getElem?_toArray ..).trans rfl) (fun KK hKK => ?_) AllReadyH.nil)
  go_simp
  clear hS
  have H := S.hnew 32 [.int .i64 c1, .int .i64 c2]
  replace S := S.alloc 32 [.int .i64 c1, .int .i64 c2] (w4.heap.size)
  try simp only [List.cons_append, List.nil_append] at S
  replace at1 := at1.hold H
  replace at2 := at2.hold H
  replace HH := HH.trans H
  clear H
  refine hKK.out _ _ ⟨S.c 0 0 rfl rfl, S.c 0 1 rfl rfl, S.c 0 2 rfl rfl⟩ (fun hS => ?_)
  generalize (w4.alloc (.cells #[.int .i64 c1, .int .i64 c2] 32)) = w5 at S at1 at2 HH hS ⊢
  clear hKK KK
  try simp only [Act.put, List.setIfInBounds_toArray, List.set_cons_zero, List.set_cons_succ]
  refine wpAnyH_ready (rs := [7]) (by kernel_rfl) (by simp) (AllReadyH.cons ((List.getElem?_toArray ..).trans rfl) (fun KK hKK => ?_) AllReadyH.nil)
  go_simp
  clear hS
  refine (S.call (or_pair S 1 rfl)).mono ?_
  clear S
  rintro e w6 ⟨⟨r, rfl, hr⟩, S, H⟩
  replace at1 := at1.hold H
  replace at2 := at2.hold H
  replace HH := HH.trans H
  clear H
  go_wp2_with fail
  refine hKK.out _ _ ⟨S.c 0 0 rfl rfl, S.c 0 1 rfl rfl, S.c 0 2 rfl rfl⟩ (fun hS => ?_)
  clear hKK KK
  try simp only [Act.put, List.setIfInBounds_toArray, List.set_cons_zero, List.set_cons_succ]
  refine wpAnyH_ready (rs := [8]) (by kernel_rfl) (by simp) (AllReadyH.cons ((List.getElem?_toArray ..).trans rfl) (fun KK hKK => ?_) AllReadyH.nil)
  go_simp
  refine hKK.out _ _ hS (fun hS => ?_)
  clear hKK KK
  try simp only [Act.put, List.setIfInBounds_toArray, List.set_cons_zero, List.set_cons_succ]
  refine wpAnyH_done (by kernel_rfl) ?_ _
  clear hS HH
  by_cases h0 : r = 0
  · have h0' : (r != 0) = false := by rw [h0]; rfl
    obtain ⟨e1, e2⟩ := hr.out h0
    have v1 := h1.out e1
    have v2 := check_cut (by have := HD.out.2.2.2.1; have := HD.out.2.2.2.2.2.1; omega) (HD.out.2.2.2.2.2.2.trans e2)
    have nn : IsNat w6 (.slice p l K) (val 4294967296 ds) := by rw [← HD.out.2.2.1]; exact ⟨ds, at1.nums, ⟨HD.out.1, v1.1⟩, rfl⟩
    have nd : IsNat w6 (.slice p' l' K') (val 4294967296 es) := by rw [← HD.out.2.2.2.1]; exact ⟨es, at2.nums, ⟨HD.out.2.1, v2⟩, rfl⟩
    have m1 : val 4294967296 ds < maxN := Can.len_max ⟨HD.out.1, v1.1⟩ |>.1 (by rw [HD.out.2.2.1]; exact HD.out.2.2.2.2.1)
    have m2 : val 4294967296 es < maxN := Can.len_max ⟨HD.out.2.1, v2⟩ |>.1 (by rw [HD.out.2.2.2.1]; exact HD.out.2.2.2.2.2.1)
    obtain ⟨n, hn⟩ : ∃ n, val 4294967296 ds = n := ⟨_, rfl⟩
    obtain ⟨m, hm⟩ : ∃ m, val 4294967296 es = m := ⟨_, rfl⟩
    rw [hn] at nn m1
    rw [hm] at nd m2
    have HV := Lib.hid (And.intro v1 (And.intro v2 (And.intro hn (And.intro hm (And.intro m1 m2)))))
    obtain ⟨t, ht⟩ : ∃ t, nbits m = t := ⟨_, rfl⟩
    have HT := Lib.hid ht
    clear hr h1 e1 e2 v1 v2 hn hm m1 m2 ht h0
    clear at1 at2
    have c0_0 := S.c 0 0 rfl rfl
    have c0_1 := S.c 0 1 rfl rfl
    have c0_2 := S.c 0 2 rfl rfl
    go_wp2_with fail
    clear c0_0 c0_1 c0_2
    refine (S.call (bits_nat nd HV.out.2.2.2.2.2 HT.out)).mono ?_
    clear S
    rintro e w7 ⟨rfl, S, H⟩
    replace nn := nn.hold H
    replace nd := nd.hold H
    clear H
    have c0_0 := S.c 0 0 rfl rfl
    have c0_1 := S.c 0 1 rfl rfl
    have c0_2 := S.c 0 2 rfl rfl
    by_cases ht0 : t = 0
    · subst ht0
      go_wp2_with fail
      exact bodyPost_ret (v := .int .i64 2) (by simp [results, Tryz.f22, go_sem]) rfl (⟨⟨2, rfl, fun h => by cases h⟩, S.below⟩)
    · have htI : ((t : Int) == 0) = false := by simpa using ht0
      have htJ : ¬ (t : Int) = 0 := by omega
      have hm0 : m ≠ 0 := fun e => ht0 (by rw [← HT.out, e]; rfl)
      have HM := Lib.hid hm0
      clear ht0 hm0
      go_wp2_with fail
      clear c0_0 c0_1 c0_2
      refine (S.call (gcd_any nn nd HV.out.2.2.2.2.1 HV.out.2.2.2.2.2)).mono ?_
      clear S
      rintro e w8 ⟨⟨v, rfl, nv⟩, S, H⟩
      replace nn := nn.hold H
      replace nd := nd.hold H
      clear H
      have c0_0 := S.c 0 0 rfl rfl
      have c0_1 := S.c 0 1 rfl rfl
      have c0_2 := S.c 0 2 rfl rfl
      obtain ⟨u, hu⟩ : ∃ u, nbits (Nat.gcd n m) = u := ⟨_, rfl⟩
      have HU := Lib.hid hu
      have hgm : Nat.gcd n m < maxN := Nat.lt_of_le_of_lt (Nat.gcd_le_right _ (by have := HM.out; omega)) HV.out.2.2.2.2.2
      have HG := Lib.hid hgm
      clear hu hgm
      go_wp2_with fail
      clear c0_0 c0_1 c0_2
      refine (S.call (bits_nat nv HG.out HU.out)).mono ?_
      clear S
      rintro e w9 ⟨rfl, S, H⟩
      replace nn := nn.hold H
      replace nd := nd.hold H
      replace nv := nv.hold H
      clear H
      have c0_0 := S.c 0 0 rfl rfl
      have c0_1 := S.c 0 1 rfl rfl
      have c0_2 := S.c 0 2 rfl rfl
      by_cases hu1 : 1 < u
      · have hu1' : (1 : Int) < (u : Int) := by omega
        go_wp2_with fail
        exact bodyPost_ret (v := .int .i64 2) (by simp [results, Tryz.f22, go_sem]) rfl (⟨⟨2, rfl, fun h => by cases h⟩, S.below⟩)
      · have hu1' : ¬ (1 : Int) < (u : Int) := by omega
        have HOK := Lib.hid (show ValidR b ds es from ⟨HV.out.1, HV.out.2.1, by rw [HV.out.2.2.2.1]; exact HM.out, by rw [HV.out.2.2.1, HV.out.2.2.2.1]; exact bits_le_one (fun e => HM.out (Nat.gcd_eq_zero_iff.1 e).2) (by rw [HU.out]; exact hu1)⟩)
        clear hu1
        go_wp2_with fail
        exact bodyPost_ret (v := .int .i64 0) (by simp [results, Tryz.f22, go_sem]) rfl (⟨⟨0, rfl, fun _ => HOK.out⟩, S.below⟩)
  · have h0' : (r != 0) = true := by simpa using h0
    have H0 := Lib.hid h0
    clear h0
    go_wp2_with fail
    exact bodyPost_ret (v := .int .i64 r) (by simp [results, Tryz.f22, go_sem]) rfl (⟨⟨r, rfl, fun h => absurd h H0.out⟩, S.below⟩)

end Go.Proofs.YtkokimlgofimmaaGreatDoor

namespace Go.Proofs.YtkokimlgofimmaaGreatDoor
open Go.RowKit

/-- A ratio that is tried: short, and as it should stand. -/
def TriedR (k : Nat) (b : Bool) (ds es : List Nat) : Prop := ds.length ≤ k ∧ es.length ≤ k ∧ ValidR b ds es

theorem tried_rat {b : Bool} {ds es : List Nat} {k l m : Nat} {p p' : Option Addr} {K K' : Nat} {w : World} (h : TriedR k b ds es) (d1 : Dig 4294967296 ds) (d2 : Dig 4294967296 es) (hl : ds.length = l) (hm : es.length = m) (at1 : At .u32 w p K ds) (at2 : At .u32 w p' K' es) :
    ∃ q : Rat, Hid (negB q.num = b) ∧ RB q k ∧ IsNat w (.slice p l K) q.num.natAbs ∧ IsNat w (.slice p' m K') q.den := by
  subst hl; subst hm
  obtain ⟨h1, h2, ⟨v1, v2⟩, v3, v4, v5⟩ := h
  have c1 : Can 4294967296 ds := ⟨d1, v1⟩
  have c2 : Can 4294967296 es := ⟨d2, v3⟩
  have n1 : IsNat w (.slice p ds.length K) (val 4294967296 ds) := ⟨ds, at1.nums, c1, rfl⟩
  have n2 : IsNat w (.slice p' es.length K') (val 4294967296 es) := ⟨es, at2.nums, c2, rfl⟩
  have b1 := nb_len c1 h1
  have b2 := nb_len c2 h2
  cases b with
  | false =>
    refine ⟨⟨(val 4294967296 ds : Nat), val 4294967296 es, v4, by simpa [Nat.Coprime] using v5⟩, negB_neg (by show ¬ (((val 4294967296 ds : Nat) : Int) < 0); omega), ⟨by simpa using b1, b2⟩, by simpa using n1, n2⟩
  | true =>
    have h0 : val 4294967296 ds ≠ 0 := fun e => v2 rfl (c1.eq_nil (by decide) e)
    refine ⟨⟨-((val 4294967296 ds : Nat) : Int), val 4294967296 es, v4, by simpa [Nat.Coprime] using v5⟩, negB_pos (by show -((val 4294967296 ds : Nat) : Int) < 0; omega), ⟨by simpa using b1, b2⟩, by simpa using n1, n2⟩

theorem rat_eq {x y : Rat} : x = y ↔ x.num = y.num ∧ x.den = y.den := ⟨fun h => by rw [h]; exact ⟨rfl, rfl⟩, fun h => Rat.ext h.1 h.2⟩

end Go.Proofs.YtkokimlgofimmaaGreatDoor

namespace Go.Proofs.YtkokimlgofimmaaGreatDoor
open Go.RowKit

theorem abs_num (x : Rat) : (x.abs).num = x.num.natAbs ∧ (x.abs).den = x.den := by
  unfold Rat.abs
  split
  · rename_i h
    have := Rat.num_nonneg.2 h
    exact ⟨by omega, rfl⟩
  · rename_i h
    have : ¬ 0 ≤ x.num := fun e => h (Rat.num_nonneg.1 e)
    exact ⟨by rw [Rat.neg_num]; omega, rfl⟩

set_option maxRecDepth 100000 in
set_option maxHeartbeats 4000000 in
theorem rabs_any {va : Value} {x : Rat} {w : World} (ha : IsRat w va x) (hx : x.num.natAbs < maxN ∧ x.den < maxN) :
    Calls Tryz.prog 31 #[va] w fun e w' => (∃ u, e = .returned u ∧ IsRat w' u x.abs) ∧ Below w.heap.size w w' := by
  obtain ⟨b1, p1, l1, K1, q1, j1, J1, rfl, hb1, n1, d1⟩ := ha
  have HX := Lib.hid hx
  have HQ := Lib.hid (abs_num x)
  clear hx
  have S := ((St.start w).alloc 31 [.bool b1, .slice p1 l1 K1, .slice q1 j1 J1] (w.heap.size)).alloc 31 [.bool false, .slice none 0 0, .slice none 0 0] (w.heap.size + 1)
  try simp only [List.cons_append, List.nil_append] at S
  replace n1 := n1.hold S.hold
  replace d1 := d1.hold S.hold
  have c0_0 := S.c 0 0 rfl rfl
  have c0_1 := S.c 0 1 rfl rfl
  have c0_2 := S.c 0 2 rfl rfl
  have c1_0 := S.c 1 0 rfl rfl
  have c1_1 := S.c 1 1 rfl rfl
  have c1_2 := S.c 1 2 rfl rfl
  go_enter Tryz.func31, Tryz.ntmps31
  go_upto_region 1 with fail
  clear c0_0 c0_1 c0_2 c1_0 c1_1 c1_2
  generalize ((w.alloc (.cells #[.bool b1, .slice p1 l1 K1, .slice q1 j1 J1] 31)).alloc (.cells #[.bool false, .slice none 0 0, .slice none 0 0] 31)) = w1 at S n1 d1 ⊢
  have HH := Hold.drew w1
  replace n1 := n1.hold HH
  replace d1 := d1.hold HH
  replace S := S.drew
  refine wp_region_held_drew (S := fun W => W.cell? ⟨w.heap.size, 0, none⟩ = some (.bool b1) ∧ W.cell? ⟨w.heap.size, 1, none⟩ = some (.slice p1 l1 K1) ∧ W.cell? ⟨w.heap.size, 2, none⟩ = some (.slice q1 j1 J1)) (by kernel_rfl) ⟨S.c 0 0 rfl rfl, S.c 0 1 rfl rfl, S.c 0 2 rfl rfl⟩ (fun hS => ?_)
  generalize w1.drew = w2 at S n1 d1 HH hS ⊢
  refine wpAnyH_take (i := 0) (v := ?_) ((List.getElem?_toArray ..).trans rfl) (by kernel_rfl) (by kernel_rfl) (by kernel_rfl) (fun _ _ _ h => h) (Or.inl ⟨rfl, fun W hW => ?_⟩) hS ?_
  rotate_left
  · obtain ⟨hW0, hW1, hW2⟩ := hW; go_simp; try first | rfl | (rw [if_neg (by first | omega | (simp only [ByteArray.size_append]; first | omega | (have h1 : (ByteArray.mk #[47]).size = 1 := rfl; omega)))]; try rfl) | kernel_rfl
  try simp only [Act.put, List.setIfInBounds_toArray, List.set_cons_zero, List.set_cons_succ]
  refine wpAnyH_take (i := 1) (v := ?_) ((List.getElem?_toArray ..).trans rfl) (by kernel_rfl) (by kernel_rfl) (by kernel_rfl) (fun _ _ _ h => h) (Or.inl ⟨rfl, fun W hW => ?_⟩) hS ?_
  rotate_left
  · obtain ⟨hW0, hW1, hW2⟩ := hW; go_simp; try first | rfl | (rw [if_neg (by first | omega | (simp only [ByteArray.size_append]; first | omega | (have h1 : (ByteArray.mk #[47]).size = 1 := rfl; omega)))]; try rfl) | kernel_rfl
  try simp only [Act.put, List.setIfInBounds_toArray, List.set_cons_zero, List.set_cons_succ]
  refine wpAnyH_take (i := 3) (v := ?_) ((List.getElem?_toArray ..).trans rfl) (by kernel_rfl) (by kernel_rfl) (by kernel_rfl) (fun _ _ _ h => h) (Or.inl ⟨rfl, fun W hW => ?_⟩) hS ?_
  rotate_left
  · obtain ⟨hW0, hW1, hW2⟩ := hW; go_simp; try first | rfl | (rw [if_neg (by first | omega | (simp only [ByteArray.size_append]; first | omega | (have h1 : (ByteArray.mk #[47]).size = 1 := rfl; omega)))]; try rfl) | kernel_rfl
  try simp only [Act.put, List.setIfInBounds_toArray, List.set_cons_zero, List.set_cons_succ]
  refine wpAnyH_take (i := 4) (v := ?_) ((List.getElem?_toArray ..).trans rfl) (by kernel_rfl) (by kernel_rfl) (by kernel_rfl) (fun _ _ _ h => h) (Or.inl ⟨rfl, fun W hW => ?_⟩) hS ?_
  rotate_left
  · obtain ⟨hW0, hW1, hW2⟩ := hW; go_simp; try first | rfl | (rw [if_neg (by first | omega | (simp only [ByteArray.size_append]; first | omega | (have h1 : (ByteArray.mk #[47]).size = 1 := rfl; omega)))]; try rfl) | kernel_rfl
  try simp only [Act.put, List.setIfInBounds_toArray, List.set_cons_zero, List.set_cons_succ]
  refine wpAnyH_ready (rs := [2]) (by kernel_rfl) (by simp) (AllReadyH.cons ((List.getElem?_toArray ..).trans rfl) (fun KK hKK => ?_) AllReadyH.nil)
  go_simp
  clear hS
  refine (S.call (wabs_any ⟨_, _, _, by rw [hb1.out], n1⟩ HX.out.1 (x.num.natAbs : Int) rfl)).mono ?_
  clear S
  rintro e w3 ⟨⟨_, rfl, pa, la, Ka, rfl, na⟩, S, H⟩
  replace n1 := n1.hold H
  replace d1 := d1.hold H
  replace HH := HH.trans H
  clear H
  go_wp2_with fail
  refine hKK.out _ _ ⟨S.c 0 0 rfl rfl, S.c 0 1 rfl rfl, S.c 0 2 rfl rfl⟩ (fun hS => ?_)
  clear hKK KK
  try simp only [Act.put, List.setIfInBounds_toArray, List.set_cons_zero, List.set_cons_succ]
  refine wpAnyH_ready (rs := [5]) (by kernel_rfl) (by simp) (AllReadyH.cons ((List.getElem?_toArray ..).trans rfl) (fun KK hKK => ?_) AllReadyH.nil)
  go_simp
  clear hS
  refine (S.call (clone_any d1 HX.out.2)).mono ?_
  clear S
  rintro e w4 ⟨⟨_, rfl, nc⟩, S, H⟩
  replace n1 := n1.hold H
  replace d1 := d1.hold H
  replace na := na.hold H
  replace HH := HH.trans H
  clear H
  obtain ⟨pc, lc, Kc, rfl⟩ := nc.form
  go_wp2_with fail
  refine hKK.out _ _ ⟨S.c 0 0 rfl rfl, S.c 0 1 rfl rfl, S.c 0 2 rfl rfl⟩ (fun hS => ?_)
  clear hKK KK
  try simp only [Act.put, List.setIfInBounds_toArray, List.set_cons_zero, List.set_cons_succ]
  refine wpAnyH_take (i := 6) (v := ?_) ((List.getElem?_toArray ..).trans rfl) (by kernel_rfl) (by kernel_rfl) (by kernel_rfl) (fun _ _ _ h => h) (Or.inl ⟨rfl, fun W hW => ?_⟩) hS ?_
  rotate_left
  · obtain ⟨hW0, hW1, hW2⟩ := hW; go_simp; try first | rfl | (rw [if_neg (by first | omega | (simp only [ByteArray.size_append]; first | omega | (have h1 : (ByteArray.mk #[47]).size = 1 := rfl; omega)))]; try rfl) | kernel_rfl
  try simp only [Act.put, List.setIfInBounds_toArray, List.set_cons_zero, List.set_cons_succ]
  refine wpAnyH_ready (rs := [7]) (by kernel_rfl) (by simp) (AllReadyH.cons ((List.getElem?_toArray ..).trans rfl) (fun KK hKK => ?_) AllReadyH.nil)
  have c0 := S.c 1 0 rfl rfl
  have f0 := S.f 1 0 rfl
  have c1 := S.c 1 1 rfl rfl
  have f1 := S.f 1 1 rfl
  have c2 := S.c 1 2 rfl rfl
  have f2 := S.f 1 2 rfl
  go_simp
  clear hS c0 f0 c1 f1 c2 f2
  have H := S.hset 1 0 (.bool (negB (x.num.natAbs : Int))) rfl rfl (by intro q n e; cases e)
  replace S := S.set 1 0 (.bool (negB (x.num.natAbs : Int))) rfl
  replace n1 := n1.hold H
  replace d1 := d1.hold H
  replace na := na.hold H
  replace nc := nc.hold H
  replace HH := HH.trans H
  clear H
  have H := S.hset 1 1 (.slice pa la Ka) rfl rfl (by intro q n e; cases e)
  replace S := S.set 1 1 (.slice pa la Ka) rfl
  replace n1 := n1.hold H
  replace d1 := d1.hold H
  replace na := na.hold H
  replace nc := nc.hold H
  replace HH := HH.trans H
  clear H
  have H := S.hset 1 2 (.slice pc lc Kc) rfl rfl (by intro q n e; cases e)
  replace S := S.set 1 2 (.slice pc lc Kc) rfl
  replace n1 := n1.hold H
  replace d1 := d1.hold H
  replace na := na.hold H
  replace nc := nc.hold H
  replace HH := HH.trans H
  clear H
  refine hKK.out _ _ ⟨S.c 0 0 rfl rfl, S.c 0 1 rfl rfl, S.c 0 2 rfl rfl⟩ (fun hS => ?_)
  generalize (((w4.setCell ⟨w.heap.size + 1, 0, none⟩ (.bool (negB (x.num.natAbs : Int)))).setCell ⟨w.heap.size + 1, 1, none⟩ (.slice pa la Ka)).setCell ⟨w.heap.size + 1, 2, none⟩ (.slice pc lc Kc)) = w5 at S n1 d1 na nc HH hS ⊢
  clear hKK KK
  try simp only [Act.put, List.setIfInBounds_toArray, List.set_cons_zero, List.set_cons_succ]
  refine wpAnyH_done (by kernel_rfl) ?_ _
  clear hS HH
  have c0_0 := S.c 0 0 rfl rfl
  have c0_1 := S.c 0 1 rfl rfl
  have c0_2 := S.c 0 2 rfl rfl
  have c1_0 := S.c 1 0 rfl rfl
  have c1_1 := S.c 1 1 rfl rfl
  have c1_2 := S.c 1 2 rfl rfl
  go_wp2_with fail
  have d1_0 := S.c 1 0 rfl rfl
  have d1_1 := S.c 1 1 rfl rfl
  have d1_2 := S.c 1 2 rfl rfl
  exact bodyPost_ret (v := .agg #[.bool (negB (x.num.natAbs : Int)), .slice pa la Ka, .slice pc lc Kc]) (by simp [results, Tryz.f31, go_sem, d1_0, d1_1, d1_2]) rfl (⟨⟨_, rfl, _, pa, la, Ka, pc, lc, Kc, rfl, by rw [HQ.out.1]; rfl, by rw [HQ.out.1]; exact na, by rw [HQ.out.2]; exact nc⟩, S.below⟩)

end Go.Proofs.YtkokimlgofimmaaGreatDoor

namespace Go.Proofs.YtkokimlgofimmaaGreatDoor
open Go.RowKit

set_option maxRecDepth 100000 in
set_option maxHeartbeats 4000000 in
theorem dmake_nil {va : Value} {e : Int} {w : World} (ha : IsInt w va 0) :
    Calls Tryz.prog 63 #[va, .int .i64 e] w fun ev w' => ev = .returned (.tuple #[.agg #[.bool false, .slice none 0 0, .int .i64 0], .int .i64 0]) ∧ Below w.heap.size w w' := by
  obtain ⟨p1, l1, K1, rfl, n1⟩ := ha
  have S := ((St.start w).alloc 25 [.bool (negB 0), .slice p1 l1 K1] (w.heap.size)).alloc 27 [.bool false, .slice none 0 0, .int .i64 0] (w.heap.size + 1)
  try simp only [List.cons_append, List.nil_append] at S
  replace n1 := n1.hold S.hold
  have c0_0 := S.c 0 0 rfl rfl
  have c0_1 := S.c 0 1 rfl rfl
  have c1_0 := S.c 1 0 rfl rfl
  have c1_1 := S.c 1 1 rfl rfl
  have c1_2 := S.c 1 2 rfl rfl
  go_enter Tryz.func63, Tryz.ntmps63
  go_wp2_with fail
  clear c0_0 c0_1 c1_0 c1_1 c1_2
  refine (S.call (wsign_any (z := 0) (s := 0) ⟨_, _, _, rfl, n1⟩ (lt_maxN (by decide)) rfl)).mono ?_
  clear S
  rintro e w1 ⟨rfl, S, H⟩
  replace n1 := n1.hold H
  clear H
  have c0_0 := S.c 0 0 rfl rfl
  have c0_1 := S.c 0 1 rfl rfl
  have c1_0 := S.c 1 0 rfl rfl
  have c1_1 := S.c 1 1 rfl rfl
  have c1_2 := S.c 1 2 rfl rfl
  have f1_0 := S.f 1 0 rfl
  have H := S.hset 1 0 (.bool false) rfl rfl (by intro q n e; cases e)
  replace S := S.set 1 0 (.bool false) rfl
  replace n1 := n1.hold H
  clear H
  have f1_1 := S.f 1 1 rfl
  have H := S.hset 1 1 (.slice none 0 0) rfl rfl (by intro q n e; cases e)
  replace S := S.set 1 1 (.slice none 0 0) rfl
  replace n1 := n1.hold H
  clear H
  have f1_2 := S.f 1 2 rfl
  have H := S.hset32 1 2 (.int .i64 0) rfl rfl (by intro n e; cases e)
  replace S := S.set 1 2 (.int .i64 0) rfl
  replace n1 := n1.hold32 H
  clear H
  go_wp2_with fail
  have d1_0 := S.c 1 0 rfl rfl
  have d1_1 := S.c 1 1 rfl rfl
  have d1_2 := S.c 1 2 rfl rfl
  exact bodyPost_ret (v := .tuple #[.agg #[.bool false, .slice none 0 0, .int .i64 0], .int .i64 0]) (by simp [results, Tryz.f63, go_sem, d1_0, d1_1, d1_2]) rfl (⟨rfl, S.below⟩)

set_option maxRecDepth 100000 in
set_option maxHeartbeats 4000000 in
/-- Beyond the powers that may be. -/
theorem dmake_range {va : Value} {z e : Int} {w : World} (hT : Tab w) (ha : IsInt w va z) (hz : z.natAbs < maxN) (h0 : z ≠ 0) (t : Nat) (ht : TailIs z.natAbs t) (htl : t ≤ 16384) (h : (e < -65536 ∨ 65536 < e) ∨ (-65536 ≤ e ∧ e ≤ 65536 ∧ 65536 < e + t)) :
    Calls Tryz.prog 63 #[va, .int .i64 e] w fun ev w' => ev = .returned (.tuple #[.agg #[.bool false, .slice none 0 0, .int .i64 0], .int .i64 1]) ∧ Below w.heap.size w w' := by
  obtain ⟨p1, l1, K1, rfl, n1⟩ := ha
  obtain ⟨b1, hb1⟩ : ∃ b1, negB z = b1 := ⟨_, rfl⟩
  rw [hb1]
  obtain ⟨s, hs⟩ : ∃ s, z.sign = s := ⟨_, rfl⟩
  have hs1 : (s == 0) = false := by rw [← hs]; simpa using fun h => h0 (Int.sign_eq_zero_iff_zero.1 h)
  have hz0 : z.natAbs ≠ 0 := by omega
  have HD := Lib.hid (And.intro hT (And.intro hz (And.intro hs (And.intro hb1 (And.intro hz0 ht)))))
  clear hT hz hs hb1 h0 hz0 ht
  rcases h with h | ⟨h1, h2, h3⟩
  · have HE := Lib.hid h
    clear h
    have S := ((St.start w).alloc 25 [.bool b1, .slice p1 l1 K1] (w.heap.size)).alloc 27 [.bool false, .slice none 0 0, .int .i64 0] (w.heap.size + 1)
    try simp only [List.cons_append, List.nil_append] at S
    replace n1 := n1.hold S.hold
    have c0_0 := S.c 0 0 rfl rfl
    have c0_1 := S.c 0 1 rfl rfl
    have c1_0 := S.c 1 0 rfl rfl
    have c1_1 := S.c 1 1 rfl rfl
    have c1_2 := S.c 1 2 rfl rfl
    go_enter Tryz.func63, Tryz.ntmps63
    go_wp2_with fail
    clear c0_0 c0_1 c1_0 c1_1 c1_2
    refine (S.call (wsign_any ⟨_, _, _, by rw [HD.out.2.2.2.1], n1⟩ HD.out.2.1 HD.out.2.2.1)).mono ?_
    clear S
    rintro e w1 ⟨rfl, S, H⟩
    replace n1 := n1.hold H
    clear H
    have c0_0 := S.c 0 0 rfl rfl
    have c0_1 := S.c 0 1 rfl rfl
    have c1_0 := S.c 1 0 rfl rfl
    have c1_1 := S.c 1 1 rfl rfl
    have c1_2 := S.c 1 2 rfl rfl
    go_wp2_with fail
    clear c0_0 c0_1 c1_0 c1_1 c1_2
    refine (S.call (tail_nat' n1 HD.out.2.1 (HD.out.1.below S.below))).mono ?_
    clear S
    rintro e w2 ⟨⟨t', rfl, ht'⟩, S, H⟩
    replace n1 := n1.hold H
    clear H
    have c0_0 := S.c 0 0 rfl rfl
    have c0_1 := S.c 0 1 rfl rfl
    have c1_0 := S.c 1 0 rfl rfl
    have c1_1 := S.c 1 1 rfl rfl
    have c1_2 := S.c 1 2 rfl rfl
    go_wp2_with fail
    clear c0_0 c0_1 c1_0 c1_1 c1_2
    refine (S.call (exp_out e _ HE.out)).mono ?_
    clear S
    rintro e w3 ⟨rfl, S, H⟩
    replace n1 := n1.hold H
    clear H
    have c0_0 := S.c 0 0 rfl rfl
    have c0_1 := S.c 0 1 rfl rfl
    have c1_0 := S.c 1 0 rfl rfl
    have c1_1 := S.c 1 1 rfl rfl
    have c1_2 := S.c 1 2 rfl rfl
    clear c0_0 c0_1 c1_0 c1_1 c1_2
    have c0_0 := S.c 0 0 rfl rfl
    have c0_1 := S.c 0 1 rfl rfl
    have c1_0 := S.c 1 0 rfl rfl
    have c1_1 := S.c 1 1 rfl rfl
    have c1_2 := S.c 1 2 rfl rfl
    have f1_0 := S.f 1 0 rfl
    have H := S.hset 1 0 (.bool false) rfl rfl (by intro q n e; cases e)
    replace S := S.set 1 0 (.bool false) rfl
    replace n1 := n1.hold H
    clear H
    have f1_1 := S.f 1 1 rfl
    have H := S.hset 1 1 (.slice none 0 0) rfl rfl (by intro q n e; cases e)
    replace S := S.set 1 1 (.slice none 0 0) rfl
    replace n1 := n1.hold H
    clear H
    have f1_2 := S.f 1 2 rfl
    have H := S.hset32 1 2 (.int .i64 0) rfl rfl (by intro n e; cases e)
    replace S := S.set 1 2 (.int .i64 0) rfl
    replace n1 := n1.hold32 H
    clear H
    go_wp2_with fail
    have d1_0 := S.c 1 0 rfl rfl
    have d1_1 := S.c 1 1 rfl rfl
    have d1_2 := S.c 1 2 rfl rfl
    exact bodyPost_ret (v := .tuple #[.agg #[.bool false, .slice none 0 0, .int .i64 0], .int .i64 1]) (by simp [results, Tryz.f63, go_sem, d1_0, d1_1, d1_2]) rfl (⟨rfl, S.below⟩)
  · obtain ⟨f, hf⟩ : ∃ f, e + (t : Int) = f := ⟨_, rfl⟩
    have hwr : IntKind.i64.wrap (e + (t : Int)) = f := by rw [wrap_int (by omega) (by omega), hf]
    have HE := Lib.hid (And.intro (And.intro h1 h2) (show f < -65536 ∨ 65536 < f by omega))
    clear h1 h2 h3 hf
    have S := ((St.start w).alloc 25 [.bool b1, .slice p1 l1 K1] (w.heap.size)).alloc 27 [.bool false, .slice none 0 0, .int .i64 0] (w.heap.size + 1)
    try simp only [List.cons_append, List.nil_append] at S
    replace n1 := n1.hold S.hold
    have c0_0 := S.c 0 0 rfl rfl
    have c0_1 := S.c 0 1 rfl rfl
    have c1_0 := S.c 1 0 rfl rfl
    have c1_1 := S.c 1 1 rfl rfl
    have c1_2 := S.c 1 2 rfl rfl
    go_enter Tryz.func63, Tryz.ntmps63
    go_wp2_with fail
    clear c0_0 c0_1 c1_0 c1_1 c1_2
    refine (S.call (wsign_any ⟨_, _, _, by rw [HD.out.2.2.2.1], n1⟩ HD.out.2.1 HD.out.2.2.1)).mono ?_
    clear S
    rintro e w1 ⟨rfl, S, H⟩
    replace n1 := n1.hold H
    clear H
    have c0_0 := S.c 0 0 rfl rfl
    have c0_1 := S.c 0 1 rfl rfl
    have c1_0 := S.c 1 0 rfl rfl
    have c1_1 := S.c 1 1 rfl rfl
    have c1_2 := S.c 1 2 rfl rfl
    go_wp2_with fail
    clear c0_0 c0_1 c1_0 c1_1 c1_2
    refine (S.call (tail_nat' n1 HD.out.2.1 (HD.out.1.below S.below))).mono ?_
    clear S
    rintro e w2 ⟨⟨t', rfl, ht'⟩, S, H⟩
    replace n1 := n1.hold H
    clear H
    have c0_0 := S.c 0 0 rfl rfl
    have c0_1 := S.c 0 1 rfl rfl
    have c1_0 := S.c 1 0 rfl rfl
    have c1_1 := S.c 1 1 rfl rfl
    have c1_2 := S.c 1 2 rfl rfl
    obtain rfl : t' = t := tail_uniq HD.out.2.2.2.2.1 ht'.out HD.out.2.2.2.2.2
    clear ht'
    go_wp2_with fail
    clear c0_0 c0_1 c1_0 c1_1 c1_2
    refine (S.call (exp_in e _ HE.out.1.1 HE.out.1.2)).mono ?_
    clear S
    rintro e w3 ⟨rfl, S, H⟩
    replace n1 := n1.hold H
    clear H
    have c0_0 := S.c 0 0 rfl rfl
    have c0_1 := S.c 0 1 rfl rfl
    have c1_0 := S.c 1 0 rfl rfl
    have c1_1 := S.c 1 1 rfl rfl
    have c1_2 := S.c 1 2 rfl rfl
    go_wp2_with fail
    clear c0_0 c0_1 c1_0 c1_1 c1_2
    refine (S.call (exp_out f _ HE.out.2)).mono ?_
    clear S
    rintro e w4 ⟨rfl, S, H⟩
    replace n1 := n1.hold H
    clear H
    have c0_0 := S.c 0 0 rfl rfl
    have c0_1 := S.c 0 1 rfl rfl
    have c1_0 := S.c 1 0 rfl rfl
    have c1_1 := S.c 1 1 rfl rfl
    have c1_2 := S.c 1 2 rfl rfl
    clear c0_0 c0_1 c1_0 c1_1 c1_2
    have c0_0 := S.c 0 0 rfl rfl
    have c0_1 := S.c 0 1 rfl rfl
    have c1_0 := S.c 1 0 rfl rfl
    have c1_1 := S.c 1 1 rfl rfl
    have c1_2 := S.c 1 2 rfl rfl
    have f1_0 := S.f 1 0 rfl
    have H := S.hset 1 0 (.bool false) rfl rfl (by intro q n e; cases e)
    replace S := S.set 1 0 (.bool false) rfl
    replace n1 := n1.hold H
    clear H
    have f1_1 := S.f 1 1 rfl
    have H := S.hset 1 1 (.slice none 0 0) rfl rfl (by intro q n e; cases e)
    replace S := S.set 1 1 (.slice none 0 0) rfl
    replace n1 := n1.hold H
    clear H
    have f1_2 := S.f 1 2 rfl
    have H := S.hset32 1 2 (.int .i64 0) rfl rfl (by intro n e; cases e)
    replace S := S.set 1 2 (.int .i64 0) rfl
    replace n1 := n1.hold32 H
    clear H
    go_wp2_with fail
    have d1_0 := S.c 1 0 rfl rfl
    have d1_1 := S.c 1 1 rfl rfl
    have d1_2 := S.c 1 2 rfl rfl
    exact bodyPost_ret (v := .tuple #[.agg #[.bool false, .slice none 0 0, .int .i64 0], .int .i64 1]) (by simp [results, Tryz.f63, go_sem, d1_0, d1_1, d1_2]) rfl (⟨rfl, S.below⟩)

set_option maxRecDepth 100000 in
set_option maxHeartbeats 4000000 in
/-- Of any power that may be. -/
theorem dmake_wide {va : Value} {z e : Int} {w : World} (hT : Tab w) (ha : IsInt w va z) (hz : z.natAbs < maxN) (h0 : z ≠ 0) (t : Nat) (ht : TailIs z.natAbs t) (htl : t ≤ 16384) (he : -65536 ≤ e ∧ e ≤ 65536) (f : Int) (hf : e + (t : Int) = f) (hf2 : f ≤ 65536) (o : Int) (ho : z / 2 ^ t = o) :
    Calls Tryz.prog 63 #[va, .int .i64 e] w fun ev w' => (∃ p l K, ev = .returned (.tuple #[.agg #[.bool (negB o), .slice p l K, .int .i64 f], .int .i64 0]) ∧ IsNat w' (.slice p l K) o.natAbs) ∧ Below w.heap.size w w' := by
  obtain ⟨p1, l1, K1, rfl, n1⟩ := ha
  obtain ⟨b1, hb1⟩ : ∃ b1, negB z = b1 := ⟨_, rfl⟩
  rw [hb1]
  obtain ⟨s, hs⟩ : ∃ s, z.sign = s := ⟨_, rfl⟩
  have hs1 : (s == 0) = false := by rw [← hs]; simpa using fun h => h0 (Int.sign_eq_zero_iff_zero.1 h)
  have hwr : IntKind.i64.wrap (e + (t : Int)) = f := by rw [wrap_int (by omega) (by omega), hf]
  have HD := Lib.hid (And.intro hT (And.intro hz (And.intro hs (And.intro hb1 (And.intro (show z.natAbs ≠ 0 by omega) (And.intro ht (And.intro he (And.intro (show -65536 ≤ f ∧ f ≤ 65536 by omega) (And.intro (show t ≤ 9223372036854775807 by omega) ho)))))))))
  clear hT hz hs hb1 h0 ht he hf hf2 ho htl
  have S := ((St.start w).alloc 25 [.bool b1, .slice p1 l1 K1] (w.heap.size)).alloc 27 [.bool false, .slice none 0 0, .int .i64 0] (w.heap.size + 1)
  try simp only [List.cons_append, List.nil_append] at S
  replace n1 := n1.hold S.hold
  have c0_0 := S.c 0 0 rfl rfl
  have c0_1 := S.c 0 1 rfl rfl
  have c1_0 := S.c 1 0 rfl rfl
  have c1_1 := S.c 1 1 rfl rfl
  have c1_2 := S.c 1 2 rfl rfl
  go_enter Tryz.func63, Tryz.ntmps63
  go_wp2_with fail
  clear c0_0 c0_1 c1_0 c1_1 c1_2
  refine (S.call (wsign_any ⟨_, _, _, by rw [HD.out.2.2.2.1], n1⟩ HD.out.2.1 HD.out.2.2.1)).mono ?_
  clear S
  rintro e w1 ⟨rfl, S, H⟩
  replace n1 := n1.hold H
  clear H
  have c0_0 := S.c 0 0 rfl rfl
  have c0_1 := S.c 0 1 rfl rfl
  have c1_0 := S.c 1 0 rfl rfl
  have c1_1 := S.c 1 1 rfl rfl
  have c1_2 := S.c 1 2 rfl rfl
  go_wp2_with fail
  clear c0_0 c0_1 c1_0 c1_1 c1_2
  refine (S.call (tail_nat' n1 HD.out.2.1 (HD.out.1.below S.below))).mono ?_
  clear S
  rintro e w2 ⟨⟨t', rfl, ht'⟩, S, H⟩
  replace n1 := n1.hold H
  clear H
  have c0_0 := S.c 0 0 rfl rfl
  have c0_1 := S.c 0 1 rfl rfl
  have c1_0 := S.c 1 0 rfl rfl
  have c1_1 := S.c 1 1 rfl rfl
  have c1_2 := S.c 1 2 rfl rfl
  obtain rfl : t' = t := tail_uniq HD.out.2.2.2.2.1 ht'.out HD.out.2.2.2.2.2.1
  clear ht'
  go_wp2_with fail
  clear c0_0 c0_1 c1_0 c1_1 c1_2
  refine (S.call (exp_in e _ HD.out.2.2.2.2.2.2.1.1 HD.out.2.2.2.2.2.2.1.2)).mono ?_
  clear S
  rintro e w3 ⟨rfl, S, H⟩
  replace n1 := n1.hold H
  clear H
  have c0_0 := S.c 0 0 rfl rfl
  have c0_1 := S.c 0 1 rfl rfl
  have c1_0 := S.c 1 0 rfl rfl
  have c1_1 := S.c 1 1 rfl rfl
  have c1_2 := S.c 1 2 rfl rfl
  go_wp2_with fail
  clear c0_0 c0_1 c1_0 c1_1 c1_2
  refine (S.call (exp_in f _ HD.out.2.2.2.2.2.2.2.1.1 HD.out.2.2.2.2.2.2.2.1.2)).mono ?_
  clear S
  rintro e w4 ⟨rfl, S, H⟩
  replace n1 := n1.hold H
  clear H
  have c0_0 := S.c 0 0 rfl rfl
  have c0_1 := S.c 0 1 rfl rfl
  have c1_0 := S.c 1 0 rfl rfl
  have c1_1 := S.c 1 1 rfl rfl
  have c1_2 := S.c 1 2 rfl rfl
  clear c0_0 c0_1 c1_0 c1_1 c1_2
  have c0_0 := S.c 0 0 rfl rfl
  have c0_1 := S.c 0 1 rfl rfl
  have c1_0 := S.c 1 0 rfl rfl
  have c1_1 := S.c 1 1 rfl rfl
  have c1_2 := S.c 1 2 rfl rfl
  go_wp2_with fail
  clear c0_0 c0_1 c1_0 c1_1 c1_2
  refine (S.call (wright_any (HD.out.1.below S.below) ⟨_, _, _, by rw [HD.out.2.2.2.1], n1⟩ HD.out.2.1 t' HD.out.2.2.2.2.2.2.2.2.1 o HD.out.2.2.2.2.2.2.2.2.2)).mono ?_
  clear S
  rintro e w5 ⟨⟨_, rfl, p, l, K, rfl, no⟩, S, H⟩
  replace n1 := n1.hold H
  clear H
  have c0_0 := S.c 0 0 rfl rfl
  have c0_1 := S.c 0 1 rfl rfl
  have c1_0 := S.c 1 0 rfl rfl
  have c1_1 := S.c 1 1 rfl rfl
  have c1_2 := S.c 1 2 rfl rfl
  have H := S.hnew 25 [.bool (negB o), .slice p l K]
  replace S := S.alloc 25 [.bool (negB o), .slice p l K] (w5.heap.size)
  try simp only [List.cons_append, List.nil_append] at S
  replace n1 := n1.hold H
  replace no := no.hold H
  clear H
  clear c0_0 c0_1 c1_0 c1_1 c1_2
  have c0_0 := S.c 0 0 rfl rfl
  have c0_1 := S.c 0 1 rfl rfl
  have c1_0 := S.c 1 0 rfl rfl
  have c1_1 := S.c 1 1 rfl rfl
  have c1_2 := S.c 1 2 rfl rfl
  have c2_0 := S.c 2 0 rfl rfl
  have c2_1 := S.c 2 1 rfl rfl
  have f1_0 := S.f 1 0 rfl
  have H := S.hset 1 0 (.bool (negB o)) rfl rfl (by intro q n e; cases e)
  replace S := S.set 1 0 (.bool (negB o)) rfl
  replace n1 := n1.hold H
  replace no := no.hold H
  clear H
  have f1_1 := S.f 1 1 rfl
  have H := S.hset 1 1 (.slice p l K) rfl rfl (by intro q n e; cases e)
  replace S := S.set 1 1 (.slice p l K) rfl
  replace n1 := n1.hold H
  replace no := no.hold H
  clear H
  have f1_2 := S.f 1 2 rfl
  have H := S.hset32 1 2 (.int .i64 f) rfl rfl (by intro n e; cases e)
  replace S := S.set 1 2 (.int .i64 f) rfl
  replace n1 := n1.hold32 H
  replace no := no.hold32 H
  clear H
  go_wp2_with fail
  have d1_0 := S.c 1 0 rfl rfl
  have d1_1 := S.c 1 1 rfl rfl
  have d1_2 := S.c 1 2 rfl rfl
  exact bodyPost_ret (v := .tuple #[.agg #[.bool (negB o), .slice p l K, .int .i64 f], .int .i64 0]) (by simp [results, Tryz.f63, go_sem, d1_0, d1_1, d1_2]) rfl (⟨⟨p, l, K, rfl, no⟩, S.below⟩)

set_option maxRecDepth 100000 in
set_option maxHeartbeats 4000000 in
theorem dcheck_wide {b : Bool} {p : Option Addr} {l K : Nat} {m e : Int} {w : World} (hT : Tab w) (hb : Hid (negB m = b)) (nm : IsNat w (.slice p l K) m.natAbs) (hm : m.natAbs < maxN) (h1 : m % 2 = 1) (he : -65536 ≤ e ∧ e ≤ 65536) :
    Calls Tryz.prog 69 #[.agg #[.bool b, .slice p l K, .int .i64 e]] w fun ev w' => ev = .returned (.int .i64 0) ∧ Below w.heap.size w w' := by
  obtain ⟨s, hs⟩ : ∃ s, m.sign = s := ⟨_, rfl⟩
  have hs1 : (s == 0) = false := by
    rw [← hs]
    have hne : m ≠ 0 := by omega
    simpa using hne
  have HD := Lib.hid (And.intro hT (And.intro hm (And.intro hs (And.intro h1 he))))
  clear hT hm hs h1 he
  have S := (St.start w).alloc 27 [.bool b, .slice p l K, .int .i64 e] (w.heap.size)
  try simp only [List.cons_append, List.nil_append] at S
  replace nm := nm.hold S.hold
  have c0_0 := S.c 0 0 rfl rfl
  have c0_1 := S.c 0 1 rfl rfl
  have c0_2 := S.c 0 2 rfl rfl
  go_enter Tryz.func69, Tryz.ntmps69
  go_wp2_with fail
  clear c0_0 c0_1 c0_2
  refine (S.call (wcheck_any ⟨_, _, _, by rw [hb.out], nm⟩ HD.out.2.1)).mono ?_
  clear S
  rintro e w1 ⟨rfl, S, H⟩
  replace nm := nm.hold H
  clear H
  have c0_0 := S.c 0 0 rfl rfl
  have c0_1 := S.c 0 1 rfl rfl
  have c0_2 := S.c 0 2 rfl rfl
  go_wp2_with fail
  clear c0_0 c0_1 c0_2
  refine (S.call (wsign_any ⟨_, _, _, by rw [hb.out], nm⟩ HD.out.2.1 HD.out.2.2.1)).mono ?_
  clear S
  rintro e w2 ⟨rfl, S, H⟩
  replace nm := nm.hold H
  clear H
  have c0_0 := S.c 0 0 rfl rfl
  have c0_1 := S.c 0 1 rfl rfl
  have c0_2 := S.c 0 2 rfl rfl
  go_wp2_with fail
  clear c0_0 c0_1 c0_2
  refine (S.call (exp_in e _ HD.out.2.2.2.2.1 HD.out.2.2.2.2.2)).mono ?_
  clear S
  rintro e w3 ⟨rfl, S, H⟩
  replace nm := nm.hold H
  clear H
  have c0_0 := S.c 0 0 rfl rfl
  have c0_1 := S.c 0 1 rfl rfl
  have c0_2 := S.c 0 2 rfl rfl
  go_wp2_with fail
  clear c0_0 c0_1 c0_2
  refine (S.call (tail_nat' nm HD.out.2.1 (HD.out.1.below S.below))).mono ?_
  clear S
  rintro e w4 ⟨⟨t, rfl, ht⟩, S, H⟩
  replace nm := nm.hold H
  clear H
  have c0_0 := S.c 0 0 rfl rfl
  have c0_1 := S.c 0 1 rfl rfl
  have c0_2 := S.c 0 2 rfl rfl
  obtain rfl := tail_none HD.out.2.2.2.1 ht.out
  clear ht
  go_wp2_with fail
  exact bodyPost_ret (v := .int .i64 0) (by simp [results, Tryz.f69, go_sem]) rfl (⟨rfl, S.below⟩)

set_option maxRecDepth 100000 in
set_option maxHeartbeats 4000000 in
theorem dfew_any {b : Bool} {p : Option Addr} {l K : Nat} {m e : Int} {w : World} (nm : IsNat w (.slice p l K) m.natAbs) (hm : m.natAbs < maxN) (n : Int) (r : Bool) (hr : decide ((nbits m.natAbs : Int) ≤ n) = r) :
    Calls Tryz.prog 24 #[.agg #[.bool b, .slice p l K, .int .i64 e], .int .i64 n] w fun ev w' => ev = .returned (.bool r) ∧ Below w.heap.size w w' := by
  obtain ⟨t, ht⟩ : ∃ t, nbits m.natAbs = t := ⟨_, rfl⟩
  rw [ht] at hr
  have HD := Lib.hid (And.intro hm ht)
  clear hm ht
  have S := (St.start w).alloc 27 [.bool b, .slice p l K, .int .i64 e] (w.heap.size)
  try simp only [List.cons_append, List.nil_append] at S
  replace nm := nm.hold S.hold
  have c0_0 := S.c 0 0 rfl rfl
  have c0_1 := S.c 0 1 rfl rfl
  have c0_2 := S.c 0 2 rfl rfl
  go_enter Tryz.func24, Tryz.ntmps24
  go_wp2_with fail
  clear c0_0 c0_1 c0_2
  refine (S.call (bits_nat nm HD.out.1 HD.out.2)).mono ?_
  clear S
  rintro e w1 ⟨rfl, S, H⟩
  replace nm := nm.hold H
  clear H
  have c0_0 := S.c 0 0 rfl rfl
  have c0_1 := S.c 0 1 rfl rfl
  have c0_2 := S.c 0 2 rfl rfl
  go_wp2_with fail
  exact bodyPost_ret (v := .bool r) (by simp [results, Tryz.f24, go_sem]) rfl (⟨rfl, S.below⟩)

end Go.Proofs.YtkokimlgofimmaaGreatDoor
