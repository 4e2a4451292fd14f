/-
  What the statement stands on.
-/
import Derived.Test.YtcfgefbkeeedgaaGreatDoorM24
namespace Go.Proofs.YtcfgefbkeeedgaaGreatDoor
open Go.RowKit
theorem dq_step (q r e : Int) (v : Nat) : dq (q * ((2 ^ v : Nat) : Int) + r) e = dq q (e + v) + dq r e := by rw [← dq_add, dq_shift]
theorem rnd_parts {m : Int} (hm : m % 2 = 1) (v : Nat) (hv : 1 ≤ v) : ∃ q r : Int, m / 2 ^ v = q ∧ m = q * ((2 ^ v : Nat) : Int) + r ∧ 0 < r ∧ r < ((2 ^ v : Nat) : Int) := by
  obtain ⟨d, hd⟩ : ∃ d : Nat, 2 ^ v = d := ⟨_, rfl⟩
  have hp : (2 : Int) ^ v = (d : Int) := by rw [← hd]; simp
  have hd0 : 0 < d := by rw [← hd]; exact Nat.two_pow_pos v
  have hd2 : d % 2 = 0 := by
    obtain ⟨u, hu⟩ : ∃ u, v = u + 1 := ⟨v - 1, by omega⟩
    rw [← hd, hu, Nat.pow_succ, Nat.mul_mod_left]
  rw [hp, hd]
  have h1 := Int.emod_add_mul_ediv m (d : Int)
  have h2 := Int.emod_nonneg m (show (d : Int) ≠ 0 by omega)
  have h3 := Int.emod_lt_of_pos m (show (0 : Int) < (d : Int) by omega)
  refine ⟨m / (d : Int), m % (d : Int), rfl, by rw [Int.mul_comm]; omega, ?_, h3⟩
  rcases Int.lt_or_eq_of_le h2 with h | h
  · exact h
  · exfalso
    have h4 := Int.dvd_of_emod_eq_zero h.symm
    obtain ⟨c, hc⟩ := h4
    obtain ⟨g, hg⟩ : ∃ g : Nat, d = 2 * g := ⟨d / 2, by omega⟩
    rw [hg, Int.natCast_mul, Int.mul_assoc] at hc
    omega
theorem rnd_off {m e : Int} {n : Nat} (hc : DyC m e) (hn : n < nbits m.natAbs) (up : Bool) :
    (up = false → rnd m e n up < dq m e ∧ dq m e < rnd m e n up + dq 1 (e + ((nbits m.natAbs - n : Nat) : Int))) ∧ (up = true → dq m e < rnd m e n up ∧ rnd m e n up - dq 1 (e + ((nbits m.natAbs - n : Nat) : Int)) < dq m e) := by
  have hm : m % 2 = 1 := by
    rcases hc with ⟨h, _⟩ | h
    · subst h; exact absurd hn (by simp [nbits])
    · exact h
  obtain ⟨v, hv⟩ : ∃ v, nbits m.natAbs - n = v := ⟨_, rfl⟩
  obtain ⟨q, r, h1, h2, h3, h4⟩ := rnd_parts hm v (by omega)
  unfold rnd rndI
  rw [if_neg (by omega), hv, h1]
  have e1 : dq m e = dq q (e + v) + dq r e := by conv => lhs; rw [h2]
                                                 exact dq_step q r e v
  have e2 : 0 < dq r e := by have := (dq_lt 0 r e).2 h3; rwa [dq_zero] at this
  have e3 : dq r e < dq 1 (e + v) := by rw [← dq_one_pow]; exact (dq_lt _ _ e).2 h4
  have e4 : dq (q + 1) (e + v) = dq q (e + v) + dq 1 (e + v) := (dq_add q 1 _).symm
  constructor
  · intro h; subst h
    rw [if_neg (by decide), Int.add_zero, e1]
    constructor <;> grind
  · intro h; subst h
    rw [if_pos rfl, e4, e1]
    constructor <;> grind
theorem rnd_same {m e : Int} {n : Nat} (hn : nbits m.natAbs ≤ n) (up : Bool) : rnd m e n up = dq m e := by unfold rnd; rw [if_pos hn]
theorem rnd_le_false {m e : Int} {n : Nat} (hc : DyC m e) : rnd m e n false ≤ dq m e := by
  by_cases h1 : nbits m.natAbs ≤ n
  · rw [rnd_same h1]; exact Rat.le_refl
  · exact Rat.le_of_lt ((rnd_off hc (by omega) false).1 rfl).1
theorem rnd_le_true {m e : Int} {n : Nat} (hc : DyC m e) : dq m e ≤ rnd m e n true := by
  by_cases h1 : nbits m.natAbs ≤ n
  · rw [rnd_same h1]; exact Rat.le_refl
  · exact Rat.le_of_lt ((rnd_off hc (by omega) true).2 rfl).1
theorem rq_le {x : Rat} (h : DyX x) (n : Nat) : rq x n false ≤ x := by
  obtain ⟨m, e, hc, hx⟩ := h
  rw [← rq_is n false hc hx, ← hx]; exact rnd_le_false hc
theorem rq_ge {x : Rat} (h : DyX x) (n : Nat) : x ≤ rq x n true := by
  obtain ⟨m, e, hc, hx⟩ := h
  rw [← rq_is n true hc hx, ← hx]; exact rnd_le_true hc
theorem rq_dyx {x : Rat} (h : DyX x) (n : Nat) (up : Bool) : DyX (rq x n up) := by
  obtain ⟨m, e, hc, hx⟩ := h
  rw [← rq_is n up hc hx]; exact rnd_dyx _ _ _ _
theorem min2_le (x y : Rat) : min2 x y ≤ x ∧ min2 x y ≤ y := by unfold min2; split <;> constructor <;> grind
theorem max2_ge (x y : Rat) : x ≤ max2 x y ∧ y ≤ max2 x y := by unfold max2; split <;> constructor <;> grind
theorem min2_or (x y : Rat) : min2 x y = x ∨ min2 x y = y := by unfold min2; split <;> simp
theorem max2_or (x y : Rat) : max2 x y = x ∨ max2 x y = y := by unfold max2; split <;> simp
theorem loM_le (x y u v : Rat) : loM x y u v ≤ x * u ∧ loM x y u v ≤ x * v ∧ loM x y u v ≤ y * u ∧ loM x y u v ≤ y * v := by
  unfold loM
  have h1 := min2_le (x * u) (x * v)
  have h2 := min2_le (min2 (x * u) (x * v)) (y * u)
  have h3 := min2_le (min2 (min2 (x * u) (x * v)) (y * u)) (y * v)
  refine ⟨?_, ?_, ?_, ?_⟩ <;> grind
theorem hiM_ge (x y u v : Rat) : x * u ≤ hiM x y u v ∧ x * v ≤ hiM x y u v ∧ y * u ≤ hiM x y u v ∧ y * v ≤ hiM x y u v := by
  unfold hiM
  have h1 := max2_ge (x * u) (x * v)
  have h2 := max2_ge (max2 (x * u) (x * v)) (y * u)
  have h3 := max2_ge (max2 (max2 (x * u) (x * v)) (y * u)) (y * v)
  refine ⟨?_, ?_, ?_, ?_⟩ <;> grind
theorem loM_or (x y u v : Rat) : loM x y u v = x * u ∨ loM x y u v = x * v ∨ loM x y u v = y * u ∨ loM x y u v = y * v := by
  unfold loM
  have h1 := min2_or (x * u) (x * v)
  have h2 := min2_or (min2 (x * u) (x * v)) (y * u)
  have h3 := min2_or (min2 (min2 (x * u) (x * v)) (y * u)) (y * v)
  rcases h3 with h3 | h3 <;> rcases h2 with h2 | h2 <;> rcases h1 with h1 | h1 <;> grind
theorem hiM_or (x y u v : Rat) : hiM x y u v = x * u ∨ hiM x y u v = x * v ∨ hiM x y u v = y * u ∨ hiM x y u v = y * v := by
  unfold hiM
  have h1 := max2_or (x * u) (x * v)
  have h2 := max2_or (max2 (x * u) (x * v)) (y * u)
  have h3 := max2_or (max2 (max2 (x * u) (x * v)) (y * u)) (y * v)
  rcases h3 with h3 | h3 <;> rcases h2 with h2 | h2 <;> rcases h1 with h1 | h1 <;> grind
theorem lin_between {x y s t : Rat} (h1 : x ≤ s) (h2 : s ≤ y) : (x * t ≤ s * t ∧ s * t ≤ y * t) ∨ (y * t ≤ s * t ∧ s * t ≤ x * t) := by
  rcases Rat.le_total (a := 0) (b := t) with h | h
  · left
    exact ⟨Rat.mul_le_mul_of_nonneg_right h1 h, Rat.mul_le_mul_of_nonneg_right h2 h⟩
  · right
    have h3 : 0 ≤ -t := by grind
    have a1 := Rat.mul_le_mul_of_nonneg_right h1 h3
    have a2 := Rat.mul_le_mul_of_nonneg_right h2 h3
    constructor <;> grind
theorem mul_between {x y u v s t : Rat} (h1 : x ≤ s) (h2 : s ≤ y) (h3 : u ≤ t) (h4 : t ≤ v) : loM x y u v ≤ s * t ∧ s * t ≤ hiM x y u v := by
  have a1 := loM_le x y u v
  have a2 := hiM_ge x y u v
  have b1 := lin_between (t := t) h1 h2
  have b2 := lin_between (t := x) h3 h4
  have b3 := lin_between (t := y) h3 h4
  rw [Rat.mul_comm u x, Rat.mul_comm t x, Rat.mul_comm v x] at b2
  rw [Rat.mul_comm u y, Rat.mul_comm t y, Rat.mul_comm v y] at b3
  generalize loM x y u v = lo at *
  generalize hiM x y u v = hi at *
  generalize x * u = p1 at *
  generalize x * v = p2 at *
  generalize y * u = p3 at *
  generalize y * v = p4 at *
  generalize s * t = p5 at *
  generalize x * t = p6 at *
  generalize y * t = p7 at *
  obtain ⟨a1, a3, a4, a5⟩ := a1
  obtain ⟨a2, a6, a7, a8⟩ := a2
  rcases b1 with ⟨b1, c1⟩ | ⟨b1, c1⟩ <;> rcases b2 with ⟨b2, c2⟩ | ⟨b2, c2⟩ <;> rcases b3 with ⟨b3, c3⟩ | ⟨b3, c3⟩ <;> constructor <;> grind
theorem loM_dyx {x y u v : Rat} (h1 : DyX x) (h2 : DyX y) (h3 : DyX u) (h4 : DyX v) : DyX (loM x y u v) := by
  rcases loM_or x y u v with h | h | h | h <;> rw [h]
  · exact h1.mul h3
  · exact h1.mul h4
  · exact h2.mul h3
  · exact h2.mul h4
theorem hiM_dyx {x y u v : Rat} (h1 : DyX x) (h2 : DyX y) (h3 : DyX u) (h4 : DyX v) : DyX (hiM x y u v) := by
  rcases hiM_or x y u v with h | h | h | h <;> rw [h]
  · exact h1.mul h3
  · exact h1.mul h4
  · exact h2.mul h3
  · exact h2.mul h4
section
variable {x1 x2 x3 x4 z y : Rat}
theorem in_add (D1 : DyX x1) (D2 : DyX x2) (D3 : DyX x3) (D4 : DyX x4) (h1 : x1 ≤ z) (h2 : z ≤ x2) (h3 : x3 ≤ y) (h4 : y ≤ x4) (n : Nat) : rq (x1 + x3) n false ≤ z + y ∧ z + y ≤ rq (x2 + x4) n true := by
  have a1 := rq_le (D1.add D3) n
  have a2 := rq_ge (D2.add D4) n
  constructor <;> grind
theorem in_mul (D1 : DyX x1) (D2 : DyX x2) (D3 : DyX x3) (D4 : DyX x4) (h1 : x1 ≤ z) (h2 : z ≤ x2) (h3 : x3 ≤ y) (h4 : y ≤ x4) (n : Nat) : rq (loM x1 x2 x3 x4) n false ≤ z * y ∧ z * y ≤ rq (hiM x1 x2 x3 x4) n true := by
  have a1 := rq_le (loM_dyx D1 D2 D3 D4) n
  have a2 := rq_ge (hiM_dyx D1 D2 D3 D4) n
  have a3 := mul_between h1 h2 h3 h4
  exact ⟨Rat.le_trans a1 a3.1, Rat.le_trans a3.2 a2⟩
end
theorem abs_num (x : Rat) : (x.abs).num = x.num.natAbs ∧ (x.abs).den = x.den := by
  unfold Rat.abs
  split
  · rename_i h
    have := Rat.num_nonneg.2 h
    exact ⟨by omega, rfl⟩
  · rename_i h
    have : ¬ 0 ≤ x.num := fun e => h (Rat.num_nonneg.1 e)
    exact ⟨by rw [Rat.neg_num]; omega, rfl⟩
set_option maxRecDepth 100000 in
set_option maxHeartbeats 4000000 in
theorem rabs_any {va : Value} {x : Rat} {w : World} (ha : IsRat w va x) (hx : x.num.natAbs < maxN ∧ x.den < maxN) :
    Calls Tryz.prog 50 #[va] w fun e w' => (∃ u, e = .returned u ∧ IsRat w' u x.abs) ∧ Below w.heap.size w w' := by
  obtain ⟨b1, p1, l1, K1, q1, j1, J1, rfl, hb1, n1, d1⟩ := ha
  have HX := Lib.hid hx
  have HQ := Lib.hid (abs_num x)
  clear hx
  have S := ((St.start w).alloc 34 [.bool b1, .slice p1 l1 K1, .slice q1 j1 J1] (w.heap.size)).alloc 34 [.bool false, .slice none 0 0, .slice none 0 0] (w.heap.size + 1)
  try simp only [List.cons_append, List.nil_append] at S
  replace n1 := n1.hold S.hold; replace d1 := d1.hold S.hold
  obtain ⟨c0_0, c0_1, c0_2⟩ := S.c3 0 rfl; obtain ⟨c1_0, c1_1, c1_2⟩ := S.c3 1 rfl
  go_enter Tryz.func50, Tryz.ntmps50
  go_upto_region 1 with fail
  clear c0_0 c0_1 c0_2 c1_0 c1_1 c1_2
  generalize ((w.alloc (.cells #[.bool b1, .slice p1 l1 K1, .slice q1 j1 J1] 34)).alloc (.cells #[.bool false, .slice none 0 0, .slice none 0 0] 34)) = w1 at S n1 d1 ⊢
  have HH := Hold.drew w1
  replace n1 := n1.hold HH; replace d1 := d1.hold HH
  replace S := S.drew
  refine wp_region_held_drew (S := fun W => W.cell? ⟨w.heap.size, 0, none⟩ = some (.bool b1) ∧ W.cell? ⟨w.heap.size, 1, none⟩ = some (.slice p1 l1 K1) ∧ W.cell? ⟨w.heap.size, 2, none⟩ = some (.slice q1 j1 J1)) (by kernel_rfl) (S.c3 0 rfl) (fun hS => ?_)
  generalize w1.drew = w2 at S n1 d1 HH hS ⊢
  refine tk 0 hS ?_
  refine tk 1 hS ?_
  refine tk 3 hS ?_
  refine tk 4 hS ?_
  refine rd 2 fun KK hKK => ?_
  go_simp; clear hS
  refine (S.call (wabs_any ⟨_, _, _, by rw [hb1.out], n1⟩ HX.out.1 (x.num.natAbs : Int) rfl)).mono ?_
  clear S
  rintro e w3 ⟨⟨_, rfl, pa, la, Ka, rfl, na⟩, S, H⟩
  replace n1 := n1.hold H; replace d1 := d1.hold H; replace HH := HH.trans H; clear H
  go_wp2_with fail
  refine ho hKK (S.c3 0 rfl) fun hS => ?_
  clear hKK KK
  refine rd 5 fun KK hKK => ?_
  go_simp; clear hS
  refine (S.call (clone_any d1 HX.out.2)).mono ?_
  clear S
  rintro e w4 ⟨⟨_, rfl, nc⟩, S, H⟩
  refine iv3 H n1 d1 na ?_; clear n1 d1 na; intro n1 d1 na; replace HH := HH.trans H; clear H
  obtain ⟨pc, lc, Kc, rfl⟩ := nc.form
  go_wp2_with fail
  refine ho hKK (S.c3 0 rfl) fun hS => ?_
  clear hKK KK
  refine tk 6 hS ?_
  refine rd 7 fun KK hKK => ?_
  obtain ⟨c0, c1, c2⟩ := S.c3 1 rfl; obtain ⟨f0, f1, f2⟩ := S.f3 1 rfl
  go_simp; clear hS c0 f0 c1 f1 c2 f2
  have HP := S.putq 1 (.bool (negB (x.num.natAbs : Int))) (.slice pa la Ka) (.slice pc lc Kc) rfl rfl; have H := HP.2; replace S := HP.1; clear HP
  refine iv4 H n1 d1 na nc ?_; clear n1 d1 na nc; intro n1 d1 na nc; replace HH := HH.trans H; clear H
  refine ho hKK (S.c3 0 rfl) fun hS => ?_
  generalize (((w4.setCell ⟨w.heap.size + 1, 0, none⟩ (.bool (negB (x.num.natAbs : Int)))).setCell ⟨w.heap.size + 1, 1, none⟩ (.slice pa la Ka)).setCell ⟨w.heap.size + 1, 2, none⟩ (.slice pc lc Kc)) = w5 at S n1 d1 na nc HH hS ⊢
  clear hKK KK
  refine wpAnyH_done (by kernel_rfl) ?_ _
  clear hS HH; obtain ⟨c0_0, c0_1, c0_2⟩ := S.c3 0 rfl; obtain ⟨c1_0, c1_1, c1_2⟩ := S.c3 1 rfl; go_wp2_with fail; obtain ⟨d1_0, d1_1, d1_2⟩ := S.c3 1 rfl
  exact bodyPost_ret (v := .agg #[.bool (negB (x.num.natAbs : Int)), .slice pa la Ka, .slice pc lc Kc]) (by simp [results, Tryz.f50, go_sem, d1_0, d1_1, d1_2]) rfl (⟨⟨_, rfl, _, pa, la, Ka, pc, lc, Kc, rfl, by rw [HQ.out.1]; rfl, by rw [HQ.out.1]; exact na, by rw [HQ.out.2]; exact nc⟩, S.below⟩)
end Go.Proofs.YtcfgefbkeeedgaaGreatDoor
