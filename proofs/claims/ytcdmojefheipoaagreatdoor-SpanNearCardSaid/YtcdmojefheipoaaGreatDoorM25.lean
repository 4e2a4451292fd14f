/-
  What the statement stands on.
-/
import Derived.Test.YtcdmojefheipoaaGreatDoorM23
namespace Go.Proofs.YtcdmojefheipoaaGreatDoor
open Go.RowKit
theorem dq_step (q r e : Int) (v : Nat) : dq (q * ((2 ^ v : Nat) : Int) + r) e = dq q (e + v) + dq r e := by rw [← dq_add, dq_shift]
theorem rnd_parts {m : Int} (hm : m % 2 = 1) (v : Nat) (hv : 1 ≤ v) : ∃ q r : Int, m / 2 ^ v = q ∧ m = q * ((2 ^ v : Nat) : Int) + r ∧ 0 < r ∧ r < ((2 ^ v : Nat) : Int) := by
  obtain ⟨d, hd⟩ : ∃ d : Nat, 2 ^ v = d := ⟨_, rfl⟩
  have hp : (2 : Int) ^ v = (d : Int) := by rw [← hd]; simp
  have hd0 : 0 < d := by rw [← hd]; exact Nat.two_pow_pos v
  have hd2 : d % 2 = 0 := by
    obtain ⟨u, hu⟩ : ∃ u, v = u + 1 := ⟨v - 1, by omega⟩
    rw [← hd, hu, Nat.pow_succ, Nat.mul_mod_left]
  rw [hp, hd]
  have h1 := Int.emod_add_mul_ediv m (d : Int)
  have h2 := Int.emod_nonneg m (show (d : Int) ≠ 0 by omega)
  have h3 := Int.emod_lt_of_pos m (show (0 : Int) < (d : Int) by omega)
  refine ⟨m / (d : Int), m % (d : Int), rfl, by rw [Int.mul_comm]; omega, ?_, h3⟩
  rcases Int.lt_or_eq_of_le h2 with h | h
  · exact h
  · exfalso
    have h4 := Int.dvd_of_emod_eq_zero h.symm
    obtain ⟨c, hc⟩ := h4
    obtain ⟨g, hg⟩ : ∃ g : Nat, d = 2 * g := ⟨d / 2, by omega⟩
    rw [hg, Int.natCast_mul, Int.mul_assoc] at hc
    omega
theorem rnd_off {m e : Int} {n : Nat} (hc : DyC m e) (hn : n < nbits m.natAbs) (up : Bool) :
    (up = false → rnd m e n up < dq m e ∧ dq m e < rnd m e n up + dq 1 (e + ((nbits m.natAbs - n : Nat) : Int))) ∧ (up = true → dq m e < rnd m e n up ∧ rnd m e n up - dq 1 (e + ((nbits m.natAbs - n : Nat) : Int)) < dq m e) := by
  have hm : m % 2 = 1 := by
    rcases hc with ⟨h, _⟩ | h
    · subst h; exact absurd hn (by simp [nbits])
    · exact h
  obtain ⟨v, hv⟩ : ∃ v, nbits m.natAbs - n = v := ⟨_, rfl⟩
  obtain ⟨q, r, h1, h2, h3, h4⟩ := rnd_parts hm v (by omega)
  unfold rnd rndI
  rw [if_neg (by omega), hv, h1]
  have e1 : dq m e = dq q (e + v) + dq r e := by conv => lhs; rw [h2]
                                                 exact dq_step q r e v
  have e2 : 0 < dq r e := by have := (dq_lt 0 r e).2 h3; rwa [dq_zero] at this
  have e3 : dq r e < dq 1 (e + v) := by rw [← dq_one_pow]; exact (dq_lt _ _ e).2 h4
  have e4 : dq (q + 1) (e + v) = dq q (e + v) + dq 1 (e + v) := (dq_add q 1 _).symm
  constructor
  · intro h; subst h
    rw [if_neg (by decide), Int.add_zero, e1]
    constructor <;> grind
  · intro h; subst h
    rw [if_pos rfl, e4, e1]
    constructor <;> grind
theorem rnd_few {m e p f : Int} {n : Nat} {up : Bool} (hn : 2 ≤ n) (hc : DyC m e) (hp : DyC p f) (h : dq p f = rnd m e n up) : nbits p.natAbs ≤ n := by
  by_cases h1 : nbits m.natAbs ≤ n
  · rw [rnd_same h1] at h
    rw [(dyc_uniq hp hc h).1]
    exact h1
  · obtain ⟨v, hv⟩ : ∃ v, nbits m.natAbs - n = v := ⟨_, rfl⟩
    have h2 := rndI_le m v up
    have hm0 : m.natAbs ≠ 0 := by intro e0; rw [e0] at h1; simp [nbits] at h1
    obtain ⟨_, _, h3⟩ := nbits_spec hm0
    rw [show nbits m.natAbs = n + v by omega, Nat.pow_add] at h3
    unfold rnd at h
    rw [if_neg h1, hv] at h
    have hz : (rndI m v up).natAbs ≤ 2 ^ n := by
      have h4 : (rndI m v up).natAbs * 2 ^ v < (2 ^ n + 1) * 2 ^ v := by rw [Nat.add_mul, Nat.one_mul]; omega
      have := Nat.lt_of_mul_lt_mul_right h4
      omega
    rcases hp with ⟨hp, _⟩ | hp
    · subst hp; simp [nbits]
    · obtain ⟨t, ht, _⟩ := dq_odd hp h
      have hp0 : p.natAbs ≠ 0 := by omega
      refine nbits_pb hp0 ?_
      rw [PB_is]
      rw [ht, Int.natAbs_mul, Int.natAbs_natCast] at hz
      have h5 := Nat.two_pow_pos t
      have h6 : p.natAbs ≤ p.natAbs * 2 ^ t := Nat.le_mul_of_pos_right _ h5
      have h7 : 2 ^ n % 2 = 0 := by
        obtain ⟨u, hu⟩ : ∃ u, n = u + 1 := ⟨n - 1, by omega⟩
        rw [hu, Nat.pow_succ, Nat.mul_mod_left]
      have h8 : p.natAbs % 2 = 1 := by omega
      omega
def FewX (x : Rat) (n : Nat) : Prop := ∀ m e, DyC m e → dq m e = x → nbits m.natAbs ≤ n
theorem rnd_le_false {m e : Int} {n : Nat} (hc : DyC m e) : rnd m e n false ≤ dq m e := by
  by_cases h1 : nbits m.natAbs ≤ n
  · rw [rnd_same h1]; exact Rat.le_refl
  · exact Rat.le_of_lt ((rnd_off hc (by omega) false).1 rfl).1
theorem rnd_le_true {m e : Int} {n : Nat} (hc : DyC m e) : dq m e ≤ rnd m e n true := by
  by_cases h1 : nbits m.natAbs ≤ n
  · rw [rnd_same h1]; exact Rat.le_refl
  · exact Rat.le_of_lt ((rnd_off hc (by omega) true).2 rfl).1
theorem rnd_dyx (m e : Int) (n : Nat) (up : Bool) : DyX (rnd m e n up) := by
  unfold rnd
  split
  · exact dyx_dq _ _
  · exact dyx_dq _ _
theorem rq_le {x : Rat} (h : DyX x) (n : Nat) : rq x n false ≤ x := by
  obtain ⟨m, e, hc, hx⟩ := h
  rw [← rq_is n false hc hx, ← hx]; exact rnd_le_false hc
theorem rq_ge {x : Rat} (h : DyX x) (n : Nat) : x ≤ rq x n true := by
  obtain ⟨m, e, hc, hx⟩ := h
  rw [← rq_is n true hc hx, ← hx]; exact rnd_le_true hc
theorem rq_few {x : Rat} (h : DyX x) {n : Nat} (hn : 2 ≤ n) (up : Bool) : FewX (rq x n up) n := by
  obtain ⟨m, e, hc, hx⟩ := h
  intro p f hp hq
  exact rnd_few (up := up) hn hc hp (by rw [hq, rq_is n up hc hx])
end Go.Proofs.YtcdmojefheipoaaGreatDoor
