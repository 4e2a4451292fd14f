/-
  What the statement stands on.
-/
import Derived.Test.YtcdmojefheipoaaGreatDoorM20
import Derived.Test.YtcdmojefheipoaaGreatDoorM23
namespace Go.Proofs.YtcdmojefheipoaaGreatDoor
open Go.RowKit
theorem divInt_le (n d : Int) (h : d ≠ 0) : (Rat.divInt n d).num.natAbs ≤ n.natAbs ∧ (Rat.divInt n d).den ≤ d.natAbs := by
  obtain ⟨h1, h2, h3, h4⟩ := make_parts n d h
  refine ⟨?_, by rw [h2]; exact Nat.div_le_self _ _⟩
  rcases (show 0 < d ∨ d < 0 by omega) with h0 | h0
  · rw [h3 h0]; exact Int.natAbs_ediv_le_natAbs _ _
  · rw [h4 h0, Int.natAbs_neg]; exact Int.natAbs_ediv_le_natAbs _ _
theorem rb_divInt {n d : Int} {k : Nat} (h : d ≠ 0) (hn : n.natAbs < NB k) (hd : d.natAbs < NB k) : RB (Rat.divInt n d) k :=
  ⟨Nat.lt_of_le_of_lt (divInt_le n d h).1 hn, Nat.lt_of_le_of_lt (divInt_le n d h).2 hd⟩
theorem add_divInt (x y : Rat) : x + y = Rat.divInt (x.num * y.den + y.num * x.den) ((x.den * y.den : Nat) : Int) := by rw [Rat.add_def', Rat.divInt_ofNat]
theorem mul_divInt (x y : Rat) : x * y = Rat.divInt (x.num * y.num) ((x.den * y.den : Nat) : Int) := by rw [Rat.mul_def', Rat.divInt_ofNat]
theorem rb_add {x y : Rat} {a b : Nat} (h : RB x a) (k : RB y b) : RB (x + y) (a + b + 1) := by
  obtain ⟨h1, h2, h3, _⟩ := rbz h k
  rw [add_divInt]
  refine rb_divInt (by have := Nat.mul_pos x.den_pos y.den_pos; omega) (nbz_add h1 h2) (nb_mono h3 (by omega))
theorem rb_mul {x y : Rat} {a b : Nat} (h : RB x a) (k : RB y b) : RB (x * y) (a + b) := by
  obtain ⟨_, _, h3, h4⟩ := rbz h k
  rw [mul_divInt]
  exact rb_divInt (by have := Nat.mul_pos x.den_pos y.den_pos; omega) h4 h3
theorem rb_neg {x : Rat} {a : Nat} (h : RB x a) : RB (-x) a := ⟨by rw [Rat.neg_num, Int.natAbs_neg]; exact h.1, h.2⟩
theorem rb_sub {x y : Rat} {a b : Nat} (h : RB x a) (k : RB y b) : RB (x - y) (a + b + 1) := by
  rw [Rat.sub_eq_add_neg]
  exact rb_add h (rb_neg k)
theorem dq_step (q r e : Int) (v : Nat) : dq (q * ((2 ^ v : Nat) : Int) + r) e = dq q (e + v) + dq r e := by rw [← dq_add, dq_shift]
theorem rnd_parts {m : Int} (hm : m % 2 = 1) (v : Nat) (hv : 1 ≤ v) : ∃ q r : Int, m / 2 ^ v = q ∧ m = q * ((2 ^ v : Nat) : Int) + r ∧ 0 < r ∧ r < ((2 ^ v : Nat) : Int) := by
  obtain ⟨d, hd⟩ : ∃ d : Nat, 2 ^ v = d := ⟨_, rfl⟩
  have hp : (2 : Int) ^ v = (d : Int) := by rw [← hd]; simp
  have hd0 : 0 < d := by rw [← hd]; exact Nat.two_pow_pos v
  have hd2 : d % 2 = 0 := by
    obtain ⟨u, hu⟩ : ∃ u, v = u + 1 := ⟨v - 1, by omega⟩
    rw [← hd, hu, Nat.pow_succ, Nat.mul_mod_left]
  rw [hp, hd]
  have h1 := Int.emod_add_mul_ediv m (d : Int)
  have h2 := Int.emod_nonneg m (show (d : Int) ≠ 0 by omega)
  have h3 := Int.emod_lt_of_pos m (show (0 : Int) < (d : Int) by omega)
  refine ⟨m / (d : Int), m % (d : Int), rfl, by rw [Int.mul_comm]; omega, ?_, h3⟩
  rcases Int.lt_or_eq_of_le h2 with h | h
  · exact h
  · exfalso
    have h4 := Int.dvd_of_emod_eq_zero h.symm
    obtain ⟨c, hc⟩ := h4
    obtain ⟨g, hg⟩ : ∃ g : Nat, d = 2 * g := ⟨d / 2, by omega⟩
    rw [hg, Int.natCast_mul, Int.mul_assoc] at hc
    omega
theorem rnd_off {m e : Int} {n : Nat} (hc : DyC m e) (hn : n < nbits m.natAbs) (up : Bool) :
    (up = false → rnd m e n up < dq m e ∧ dq m e < rnd m e n up + dq 1 (e + ((nbits m.natAbs - n : Nat) : Int))) ∧ (up = true → dq m e < rnd m e n up ∧ rnd m e n up - dq 1 (e + ((nbits m.natAbs - n : Nat) : Int)) < dq m e) := by
  have hm : m % 2 = 1 := by
    rcases hc with ⟨h, _⟩ | h
    · subst h; exact absurd hn (by simp [nbits])
    · exact h
  obtain ⟨v, hv⟩ : ∃ v, nbits m.natAbs - n = v := ⟨_, rfl⟩
  obtain ⟨q, r, h1, h2, h3, h4⟩ := rnd_parts hm v (by omega)
  unfold rnd rndI
  rw [if_neg (by omega), hv, h1]
  have e1 : dq m e = dq q (e + v) + dq r e := by conv => lhs; rw [h2]
                                                 exact dq_step q r e v
  have e2 : 0 < dq r e := by have := (dq_lt 0 r e).2 h3; rwa [dq_zero] at this
  have e3 : dq r e < dq 1 (e + v) := by rw [← dq_one_pow]; exact (dq_lt _ _ e).2 h4
  have e4 : dq (q + 1) (e + v) = dq q (e + v) + dq 1 (e + v) := (dq_add q 1 _).symm
  constructor
  · intro h; subst h
    rw [if_neg (by decide), Int.add_zero, e1]
    constructor <;> grind
  · intro h; subst h
    rw [if_pos rfl, e4, e1]
    constructor <;> grind
theorem rnd_same {m e : Int} {n : Nat} (hn : nbits m.natAbs ≤ n) (up : Bool) : rnd m e n up = dq m e := by unfold rnd; rw [if_pos hn]
theorem rnd_few {m e p f : Int} {n : Nat} {up : Bool} (hn : 2 ≤ n) (hc : DyC m e) (hp : DyC p f) (h : dq p f = rnd m e n up) : nbits p.natAbs ≤ n := by
  by_cases h1 : nbits m.natAbs ≤ n
  · rw [rnd_same h1] at h
    rw [(dyc_uniq hp hc h).1]
    exact h1
  · obtain ⟨v, hv⟩ : ∃ v, nbits m.natAbs - n = v := ⟨_, rfl⟩
    have h2 := rndI_le m v up
    have hm0 : m.natAbs ≠ 0 := by intro e0; rw [e0] at h1; simp [nbits] at h1
    obtain ⟨_, _, h3⟩ := nbits_spec hm0
    rw [show nbits m.natAbs = n + v by omega, Nat.pow_add] at h3
    unfold rnd at h
    rw [if_neg h1, hv] at h
    have hz : (rndI m v up).natAbs ≤ 2 ^ n := by
      have h4 : (rndI m v up).natAbs * 2 ^ v < (2 ^ n + 1) * 2 ^ v := by rw [Nat.add_mul, Nat.one_mul]; omega
      have := Nat.lt_of_mul_lt_mul_right h4
      omega
    rcases hp with ⟨hp, _⟩ | hp
    · subst hp; simp [nbits]
    · obtain ⟨t, ht, _⟩ := dq_odd hp h
      have hp0 : p.natAbs ≠ 0 := by omega
      refine nbits_pb hp0 ?_
      rw [PB_is]
      rw [ht, Int.natAbs_mul, Int.natAbs_natCast] at hz
      have h5 := Nat.two_pow_pos t
      have h6 : p.natAbs ≤ p.natAbs * 2 ^ t := Nat.le_mul_of_pos_right _ h5
      have h7 : 2 ^ n % 2 = 0 := by
        obtain ⟨u, hu⟩ : ∃ u, n = u + 1 := ⟨n - 1, by omega⟩
        rw [hu, Nat.pow_succ, Nat.mul_mod_left]
      have h8 : p.natAbs % 2 = 1 := by omega
      omega
def FewX (x : Rat) (n : Nat) : Prop := ∀ m e, DyC m e → dq m e = x → nbits m.natAbs ≤ n
theorem DyF.dyx {m e : Int} {x : Rat} {L H : Nat} (h : DyF m e x L H) : DyX x := ⟨m, e, h.1, h.2.2⟩
theorem rnd_le_false {m e : Int} {n : Nat} (hc : DyC m e) : rnd m e n false ≤ dq m e := by
  by_cases h1 : nbits m.natAbs ≤ n
  · rw [rnd_same h1]; exact Rat.le_refl
  · exact Rat.le_of_lt ((rnd_off hc (by omega) false).1 rfl).1
theorem rnd_le_true {m e : Int} {n : Nat} (hc : DyC m e) : dq m e ≤ rnd m e n true := by
  by_cases h1 : nbits m.natAbs ≤ n
  · rw [rnd_same h1]; exact Rat.le_refl
  · exact Rat.le_of_lt ((rnd_off hc (by omega) true).2 rfl).1
theorem rnd_dyx (m e : Int) (n : Nat) (up : Bool) : DyX (rnd m e n up) := by
  unfold rnd
  split
  · exact dyx_dq _ _
  · exact dyx_dq _ _
theorem rq_le {x : Rat} (h : DyX x) (n : Nat) : rq x n false ≤ x := by
  obtain ⟨m, e, hc, hx⟩ := h
  rw [← rq_is n false hc hx, ← hx]; exact rnd_le_false hc
theorem rq_ge {x : Rat} (h : DyX x) (n : Nat) : x ≤ rq x n true := by
  obtain ⟨m, e, hc, hx⟩ := h
  rw [← rq_is n true hc hx, ← hx]; exact rnd_le_true hc
theorem rq_dyx {x : Rat} (h : DyX x) (n : Nat) (up : Bool) : DyX (rq x n up) := by
  obtain ⟨m, e, hc, hx⟩ := h
  rw [← rq_is n up hc hx]; exact rnd_dyx _ _ _ _
theorem rq_few {x : Rat} (h : DyX x) {n : Nat} (hn : 2 ≤ n) (up : Bool) : FewX (rq x n up) n := by
  obtain ⟨m, e, hc, hx⟩ := h
  intro p f hp hq
  exact rnd_few (up := up) hn hc hp (by rw [hq, rq_is n up hc hx])
theorem loM_le (x y u v : Rat) : loM x y u v ≤ x * u ∧ loM x y u v ≤ x * v ∧ loM x y u v ≤ y * u ∧ loM x y u v ≤ y * v := by
  unfold loM
  have h1 := min2_le (x * u) (x * v)
  have h2 := min2_le (min2 (x * u) (x * v)) (y * u)
  have h3 := min2_le (min2 (min2 (x * u) (x * v)) (y * u)) (y * v)
  refine ⟨?_, ?_, ?_, ?_⟩ <;> grind
theorem hiM_ge (x y u v : Rat) : x * u ≤ hiM x y u v ∧ x * v ≤ hiM x y u v ∧ y * u ≤ hiM x y u v ∧ y * v ≤ hiM x y u v := by
  unfold hiM
  have h1 := max2_ge (x * u) (x * v)
  have h2 := max2_ge (max2 (x * u) (x * v)) (y * u)
  have h3 := max2_ge (max2 (max2 (x * u) (x * v)) (y * u)) (y * v)
  refine ⟨?_, ?_, ?_, ?_⟩ <;> grind
theorem loM_or (x y u v : Rat) : loM x y u v = x * u ∨ loM x y u v = x * v ∨ loM x y u v = y * u ∨ loM x y u v = y * v := by
  unfold loM
  have h1 := min2_or (x * u) (x * v)
  have h2 := min2_or (min2 (x * u) (x * v)) (y * u)
  have h3 := min2_or (min2 (min2 (x * u) (x * v)) (y * u)) (y * v)
  rcases h3 with h3 | h3 <;> rcases h2 with h2 | h2 <;> rcases h1 with h1 | h1 <;> grind
theorem hiM_or (x y u v : Rat) : hiM x y u v = x * u ∨ hiM x y u v = x * v ∨ hiM x y u v = y * u ∨ hiM x y u v = y * v := by
  unfold hiM
  have h1 := max2_or (x * u) (x * v)
  have h2 := max2_or (max2 (x * u) (x * v)) (y * u)
  have h3 := max2_or (max2 (max2 (x * u) (x * v)) (y * u)) (y * v)
  rcases h3 with h3 | h3 <;> rcases h2 with h2 | h2 <;> rcases h1 with h1 | h1 <;> grind
theorem lin_between {x y u v s t : Rat} (h1 : x ≤ s) (h2 : s ≤ y) : (x * t ≤ s * t ∧ s * t ≤ y * t) ∨ (y * t ≤ s * t ∧ s * t ≤ x * t) := by
  rcases Rat.le_total (a := 0) (b := t) with h | h
  · left
    exact ⟨Rat.mul_le_mul_of_nonneg_right h1 h, Rat.mul_le_mul_of_nonneg_right h2 h⟩
  · right
    have h3 : 0 ≤ -t := by grind
    have a1 := Rat.mul_le_mul_of_nonneg_right h1 h3
    have a2 := Rat.mul_le_mul_of_nonneg_right h2 h3
    constructor <;> grind
theorem mul_between {x y u v s t : Rat} (h1 : x ≤ s) (h2 : s ≤ y) (h3 : u ≤ t) (h4 : t ≤ v) : loM x y u v ≤ s * t ∧ s * t ≤ hiM x y u v := by
  have a1 := loM_le x y u v
  have a2 := hiM_ge x y u v
  have b1 := lin_between (u := u) (v := v) (t := t) h1 h2
  have b2 := lin_between (u := u) (v := v) (t := x) h3 h4
  have b3 := lin_between (u := u) (v := v) (t := y) h3 h4
  rw [Rat.mul_comm u x, Rat.mul_comm t x, Rat.mul_comm v x] at b2
  rw [Rat.mul_comm u y, Rat.mul_comm t y, Rat.mul_comm v y] at b3
  generalize loM x y u v = lo at *
  generalize hiM x y u v = hi at *
  generalize x * u = p1 at *
  generalize x * v = p2 at *
  generalize y * u = p3 at *
  generalize y * v = p4 at *
  generalize s * t = p5 at *
  generalize x * t = p6 at *
  generalize y * t = p7 at *
  obtain ⟨a1, a3, a4, a5⟩ := a1
  obtain ⟨a2, a6, a7, a8⟩ := a2
  rcases b1 with ⟨b1, c1⟩ | ⟨b1, c1⟩ <;> rcases b2 with ⟨b2, c2⟩ | ⟨b2, c2⟩ <;> rcases b3 with ⟨b3, c3⟩ | ⟨b3, c3⟩ <;> constructor <;> grind
theorem loM_dyx {x y u v : Rat} (h1 : DyX x) (h2 : DyX y) (h3 : DyX u) (h4 : DyX v) : DyX (loM x y u v) := by
  rcases loM_or x y u v with h | h | h | h <;> rw [h]
  · exact h1.mul h3
  · exact h1.mul h4
  · exact h2.mul h3
  · exact h2.mul h4
theorem hiM_dyx {x y u v : Rat} (h1 : DyX x) (h2 : DyX y) (h3 : DyX u) (h4 : DyX v) : DyX (hiM x y u v) := by
  rcases hiM_or x y u v with h | h | h | h <;> rw [h]
  · exact h1.mul h3
  · exact h1.mul h4
  · exact h2.mul h3
  · exact h2.mul h4
set_option maxRecDepth 100000 in
set_option maxHeartbeats 2000000 in
theorem over_any {va vb : Value} {n d : Int} {w : World} (ha : IsInt w va n) (hb : IsInt w vb d) (hn : n.natAbs < maxN) (hd : d.natAbs < maxN) (h0 : d ≠ 0) (q : Rat) (hq : q = Rat.divInt n d) :
    Calls Tryz.prog 77 #[va, vb, .int .i64 0] w fun e w' => (∃ u, e = .returned (.tuple #[u, .int .i64 0]) ∧ IsRat w' u q) ∧ Below w.heap.size w w' := by
  obtain ⟨p1, l1, K1, rfl, n1⟩ := ha
  obtain ⟨p2, l2, K2, rfl, n2⟩ := hb
  obtain ⟨b1, hb1⟩ : ∃ b1, negB n = b1 := ⟨_, rfl⟩
  obtain ⟨b2, hb2⟩ : ∃ b2, negB d = b2 := ⟨_, rfl⟩
  rw [hb1, hb2]
  have HD := Lib.hid (And.intro hb1 (And.intro hb2 (And.intro hn (And.intro hd (And.intro h0 hq)))))
  clear hb1 hb2 hn hd h0 hq
  have S := (((St.start w).alloc 25 [.bool b1, .slice p1 l1 K1] (w.heap.size)).alloc 25 [.bool b2, .slice p2 l2 K2] (w.heap.size + 1)).alloc 34 [.bool false, .slice none 0 0, .slice none 0 0] (w.heap.size + 1 + 1)
  try simp only [List.cons_append, List.nil_append] at S
  replace n1 := n1.hold S.hold; replace n2 := n2.hold S.hold
  have c0_ := S.c2 0 rfl; have c1_ := S.c2 1 rfl; have c2_ := S.c3 2 rfl
  go_enter Tryz.func77, Tryz.ntmps77
  go_wp2_with fail; clear c0_ c1_ c2_
  refine S.cl (rmake_any ⟨_, _, _, by rw [HD.out.1], n1⟩ ⟨_, _, _, by rw [HD.out.2.1], n2⟩ HD.out.2.2.1 HD.out.2.2.2.1 HD.out.2.2.2.2.1 q HD.out.2.2.2.2.2) ?_; clear S; rintro e w1 ⟨_, rfl, b, p, l, K, q', j, J, rfl, hb, nn, dd⟩ S H
  replace n1 := n1.hold H; replace n2 := n2.hold H
  clear H; have c0_ := S.c2 0 rfl; have c1_ := S.c2 1 rfl; have c2_ := S.c3 2 rfl
  obtain ⟨f2_0, f2_1, f2_2⟩ := S.f3 2 rfl
  have HP := S.putq 2 (.bool b) (.slice p l K) (.slice q' j J) rfl rfl; have H := HP.2; replace S := HP.1; clear HP
  refine iv4 H n1 n2 nn dd ?_; clear n1 n2 nn dd; intro n1 n2 nn dd
  clear H; go_wp2_with fail; obtain ⟨d2_0, d2_1, d2_2⟩ := S.c3 2 rfl
  exact bodyPost_ret (v := .tuple #[.agg #[.bool b, .slice p l K, .slice q' j J], .int .i64 0]) (by simp [results, Tryz.f77, go_sem, d2_0, d2_1, d2_2]) rfl (⟨⟨_, rfl, b, p, l, K, q', j, J, rfl, hb, nn, dd⟩, S.below⟩)
set_option maxRecDepth 100000 in
set_option maxHeartbeats 4000000 in
theorem rmul_any {va vb : Value} {x y : Rat} {w : World} (ha : IsRat w va x) (hb : IsRat w vb y) {k1 k2 : Nat} (hx : RB x k1) (hy : RB y k2) (hk : k1 + k2 ≤ 511) (q : Rat) (hq : x * y = q) :
    Calls Tryz.prog 22 #[va, vb] w fun e w' => (∃ u, e = .returned (.tuple #[u, .int .i64 0]) ∧ IsRat w' u q) ∧ Below w.heap.size w w' := by
  obtain ⟨b1, p1, l1, K1, q1, j1, J1, rfl, hb1, n1, d1⟩ := ha
  obtain ⟨b2, p2, l2, K2, q2, j2, J2, rfl, hb2, n2, d2⟩ := hb
  obtain ⟨Z, hZ⟩ : ∃ Z, x.num * y.num = Z := ⟨_, rfl⟩
  obtain ⟨D, hD⟩ : ∃ D, ((x.den * y.den : Nat) : Int) = D := ⟨_, rfl⟩
  have hb := rbz hx hy
  rw [hZ] at hb
  have hD0 : D ≠ 0 := by rw [← hD]; have := Nat.mul_pos x.den_pos y.den_pos; omega
  have hDb : D.natAbs < maxN := by rw [← hD, Int.natAbs_natCast]; exact nb_max hb.2.2.1 (by omega)
  have hdd : (x.den : Int) * (y.den : Int) = D := by rw [← hD, Int.natCast_mul]
  have hq2 : q = Rat.divInt Z D := by rw [← hq, mul_divInt, hZ, hD]
  have HX := Lib.hid (And.intro (rb_max hx (by omega)) (rb_max hy (by omega)))
  have HD := Lib.hid (And.intro hZ (And.intro hdd (And.intro hq2 hD0)))
  have HB := Lib.hid (And.intro (nb_max hb.2.2.2 (by omega)) hDb)
  clear hZ hD hb hD0 hDb hdd hq hq2 hx hy hk
  have S := (((St.start w).alloc 34 [.bool b1, .slice p1 l1 K1, .slice q1 j1 J1] (w.heap.size)).alloc 34 [.bool b2, .slice p2 l2 K2, .slice q2 j2 J2] (w.heap.size + 1)).alloc 34 [.bool false, .slice none 0 0, .slice none 0 0] (w.heap.size + 1 + 1)
  try simp only [List.cons_append, List.nil_append] at S
  refine iv4 S.hold n1 d1 n2 d2 ?_; clear n1 d1 n2 d2; intro n1 d1 n2 d2
  have c0_ := S.c3 0 rfl; have c1_ := S.c3 1 rfl; have c2_ := S.c3 2 rfl
  go_enter Tryz.func22, Tryz.ntmps22
  go_wp2_with fail; clear c0_ c1_ c2_
  refine S.cl (wmul_to ⟨_, _, _, by rw [hb1.out], n1⟩ ⟨_, _, _, by rw [hb2.out], n2⟩ HX.out.1.1 HX.out.2.1 Z HD.out.1 HB.out.1) ?_; clear S; rintro e w1 ⟨_, rfl, pz, lz, Kz, rfl, nz⟩ S H
  refine iv4 H n1 d1 n2 d2 ?_; clear n1 d1 n2 d2; intro n1 d1 n2 d2
  clear H; have c0_ := S.c3 0 rfl; have c1_ := S.c3 1 rfl; have c2_ := S.c3 2 rfl
  have H := S.hnew 25 [.bool (negB Z), .slice pz lz Kz]
  replace S := S.al 25 [.bool (negB Z), .slice pz lz Kz] (w1.heap.size)
  refine iv5 H n1 d1 n2 d2 nz ?_; clear n1 d1 n2 d2 nz; intro n1 d1 n2 d2 nz
  clear H; clear c0_ c1_ c2_; have c0_ := S.c3 0 rfl; have c1_ := S.c3 1 rfl; have c2_ := S.c3 2 rfl; have c3_ := S.c2 3 rfl
  go_upto_region 2 with fail
  clear c0_ c1_ c2_ c3_
  generalize (w1.alloc (.cells #[.bool (negB Z), .slice pz lz Kz] 25)) = w2 at S n1 d1 n2 d2 nz ⊢
  go_cut [8, 9] (fun s8 s9 wx => ∃ g8 pd ld Kd, s8 = .pointer (some ⟨g8, 0, none⟩) ∧ s9 = .int .i64 0 ∧ St w wx [(w.heap.size, 34, [.bool b1, .slice p1 l1 K1, .slice q1 j1 J1]), (w.heap.size + 1, 34, [.bool b2, .slice p2 l2 K2, .slice q2 j2 J2]), (w.heap.size + 1 + 1, 34, [.bool false, .slice none 0 0, .slice none 0 0]), (w1.heap.size, 25, [.bool (negB Z), .slice pz lz Kz]), (g8, 25, [.bool (negB D), .slice pd ld Kd])] ∧ IsNat wx (.slice pd ld Kd) D.natAbs ∧ Hold w2 wx)
  case first =>
    have HH := Hold.drew w2
    refine iv5 HH n1 d1 n2 d2 nz ?_; clear n1 d1 n2 d2 nz; intro n1 d1 n2 d2 nz
    replace S := S.drew
    refine wp_region_held_drew (S := fun W => W.cell? ⟨w.heap.size, 2, none⟩ = some (.slice q1 j1 J1) ∧ W.cell? ⟨w.heap.size + 1, 2, none⟩ = some (.slice q2 j2 J2)) (by kernel_rfl) ⟨(S.c 0 2 rfl rfl), (S.c 1 2 rfl rfl)⟩ (fun hS => ?_)
    generalize w2.drew = w3 at S n1 d1 n2 d2 nz HH hS ⊢
    refine tk 0 hS ?_
    refine tk 1 hS ?_
    refine tk 3 hS ?_
    refine tk 4 hS ?_
    refine wpAnyH_ready (rs := [2, 10]) (by kernel_rfl) (by simp) (AllReadyH.cons (opOf rfl) (fun KK hKK => ?_) (AllReadyH.cons (opOf rfl) (fun KK hKK => ?_) AllReadyH.nil))
    ·
      go_simp; clear hS
      refine S.cl (wnat_any d1 HX.out.1.2 (x.den : Int) rfl) ?_; clear S; rintro e w4 ⟨_, rfl, pa, la, Ka, rfl, na⟩ S H
      refine iv6 H n1 d1 n2 d2 nz HH ?_; clear n1 d1 n2 d2 nz HH H; intro n1 d1 n2 d2 nz HH
      go_wp2_with fail
      refine ho hKK ⟨(S.c 0 2 rfl rfl), (S.c 1 2 rfl rfl)⟩ fun hS => ?_
      clear hKK KK
      refine wpAnyH_ready (rs := [5, 10]) (by kernel_rfl) (by simp) (AllReadyH.cons (opOf rfl) (fun KK hKK => ?_) (AllReadyH.cons (opOf rfl) (fun KK hKK => ?_) AllReadyH.nil))
      ·
        go_simp; clear hS
        refine S.cl (wnat_any d2 HX.out.2.2 (y.den : Int) rfl) ?_; clear S; rintro e w5 ⟨_, rfl, pb, lb, Kb, rfl, nb⟩ S H
        refine iv7 H n1 d1 n2 d2 nz na HH ?_; clear n1 d1 n2 d2 nz na HH H; intro n1 d1 n2 d2 nz na HH
        go_wp2_with fail
        refine ho hKK ⟨(S.c 0 2 rfl rfl), (S.c 1 2 rfl rfl)⟩ fun hS => ?_
        clear hKK KK
        refine wpAnyH_ready (rs := [6, 10]) (by kernel_rfl) (by simp) (AllReadyH.cons (opOf rfl) (fun KK hKK => ?_) (AllReadyH.cons (opOf rfl) (fun KK hKK => ?_) AllReadyH.nil))
        ·
          go_simp; clear hS
          refine S.cl (wmul_to ⟨_, _, _, rfl, na⟩ ⟨_, _, _, rfl, nb⟩ HX.out.1.2 HX.out.2.2 D HD.out.2.1 HB.out.2) ?_; clear S; rintro e w6 ⟨_, rfl, pd, ld, Kd, rfl, nd⟩ S H
          refine iv8 H n1 d1 n2 d2 nz na nb HH ?_; clear n1 d1 n2 d2 nz na nb HH H; intro n1 d1 n2 d2 nz na nb HH
          go_wp2_with fail
          refine ho hKK ⟨(S.c 0 2 rfl rfl), (S.c 1 2 rfl rfl)⟩ fun hS => ?_
          clear hKK KK
          refine tk 7 hS ?_
          refine tk 8 hS ?_
          refine tk 9 hS ?_
          refine rd 10 fun KK hKK => ?_
          go_simp; clear hS
          have H := S.hnew 25 [.bool false, .slice none 0 0]
          replace S := S.al 25 [.bool false, .slice none 0 0] (w6.heap.size)
          refine iv8 H n1 d1 n2 d2 nz na nb nd ?_; clear n1 d1 n2 d2 nz na nb nd; intro n1 d1 n2 d2 nz na nb nd; replace HH := HH.trans H; clear H
          refine ho hKK ⟨(S.c 0 2 rfl rfl), (S.c 1 2 rfl rfl)⟩ fun hS => ?_
          generalize (w6.alloc (.cells #[.bool false, .slice none 0 0] 25)) = w7 at S n1 d1 n2 d2 nz na nb nd HH hS ⊢
          clear hKK KK
          refine rd 11 fun KK hKK => ?_
          have c0 := S.c 4 0 rfl rfl; have f0 := S.f 4 0 rfl; have c1 := S.c 4 1 rfl rfl; have f1 := S.f 4 1 rfl; go_simp; clear hS c0 f0 c1 f1
          have H := S.hset 4 0 (.bool (negB D)) rfl rfl (by intro q n e; cases e)
          replace S := S.set 4 0 (.bool (negB D)) rfl
          refine iv8 H n1 d1 n2 d2 nz na nb nd ?_; clear n1 d1 n2 d2 nz na nb nd; intro n1 d1 n2 d2 nz na nb nd; replace HH := HH.trans H; clear H
          have H := S.hset 4 1 (.slice pd ld Kd) rfl rfl (by intro q n e; cases e)
          replace S := S.set 4 1 (.slice pd ld Kd) rfl
          refine iv8 H n1 d1 n2 d2 nz na nb nd ?_; clear n1 d1 n2 d2 nz na nb nd; intro n1 d1 n2 d2 nz na nb nd; replace HH := HH.trans H; clear H
          refine ho hKK ⟨(S.c 0 2 rfl rfl), (S.c 1 2 rfl rfl)⟩ fun hS => ?_
          generalize ((w7.setCell ⟨w6.heap.size, 0, none⟩ (.bool (negB D))).setCell ⟨w6.heap.size, 1, none⟩ (.slice pd ld Kd)) = w8 at S n1 d1 n2 d2 nz na nb nd HH hS ⊢
          clear hKK KK
          refine rd 12 fun KK hKK => ?_
          go_simp
          refine ho hKK hS fun hS => ?_
          clear hKK KK
          refine wpAnyH_done (by kernel_rfl) ?_ _
          go_wp2_with fail
          go_meet
          case rel => exact ⟨w6.heap.size, pd, ld, Kd, rfl, rfl, S, nd, HH⟩
        ·
          go_simp; clear hS
          have H := S.hnew 25 [.bool false, .slice none 0 0]
          replace S := S.al 25 [.bool false, .slice none 0 0] (w5.heap.size)
          refine iv8 H n1 d1 n2 d2 nz na nb HH ?_; clear n1 d1 n2 d2 nz na nb HH H; intro n1 d1 n2 d2 nz na nb HH
          refine ho hKK ⟨(S.c 0 2 rfl rfl), (S.c 1 2 rfl rfl)⟩ fun hS => ?_
          generalize (w5.alloc (.cells #[.bool false, .slice none 0 0] 25)) = w9 at S n1 d1 n2 d2 nz na nb HH hS ⊢
          clear hKK KK
          refine rd 6 fun KK hKK => ?_
          go_simp; clear hS
          refine S.cl (wmul_to ⟨_, _, _, rfl, na⟩ ⟨_, _, _, rfl, nb⟩ HX.out.1.2 HX.out.2.2 D HD.out.2.1 HB.out.2) ?_; clear S; rintro e w10 ⟨_, rfl, pd, ld, Kd, rfl, nd⟩ S H
          refine iv8 H n1 d1 n2 d2 nz na nb HH ?_; clear n1 d1 n2 d2 nz na nb HH H; intro n1 d1 n2 d2 nz na nb HH
          go_wp2_with fail
          refine ho hKK ⟨(S.c 0 2 rfl rfl), (S.c 1 2 rfl rfl)⟩ fun hS => ?_
          clear hKK KK
          refine tk 7 hS ?_
          refine tk 8 hS ?_
          refine tk 9 hS ?_
          refine rd 11 fun KK hKK => ?_
          have c0 := S.c 4 0 rfl rfl; have f0 := S.f 4 0 rfl; have c1 := S.c 4 1 rfl rfl; have f1 := S.f 4 1 rfl; go_simp; clear hS c0 f0 c1 f1
          have H := S.hset 4 0 (.bool (negB D)) rfl rfl (by intro q n e; cases e)
          replace S := S.set 4 0 (.bool (negB D)) rfl
          refine iv8 H n1 d1 n2 d2 nz na nb nd ?_; clear n1 d1 n2 d2 nz na nb nd; intro n1 d1 n2 d2 nz na nb nd; replace HH := HH.trans H; clear H
          have H := S.hset 4 1 (.slice pd ld Kd) rfl rfl (by intro q n e; cases e)
          replace S := S.set 4 1 (.slice pd ld Kd) rfl
          refine iv8 H n1 d1 n2 d2 nz na nb nd ?_; clear n1 d1 n2 d2 nz na nb nd; intro n1 d1 n2 d2 nz na nb nd; replace HH := HH.trans H; clear H
          refine ho hKK ⟨(S.c 0 2 rfl rfl), (S.c 1 2 rfl rfl)⟩ fun hS => ?_
          generalize ((w10.setCell ⟨w5.heap.size, 0, none⟩ (.bool (negB D))).setCell ⟨w5.heap.size, 1, none⟩ (.slice pd ld Kd)) = w11 at S n1 d1 n2 d2 nz na nb nd HH hS ⊢
          clear hKK KK
          refine rd 12 fun KK hKK => ?_
          go_simp
          refine ho hKK hS fun hS => ?_
          clear hKK KK
          refine wpAnyH_done (by kernel_rfl) ?_ _
          go_wp2_with fail
          go_meet
          case rel => exact ⟨w5.heap.size, pd, ld, Kd, rfl, rfl, S, nd, HH⟩
      ·
        go_simp; clear hS
        have H := S.hnew 25 [.bool false, .slice none 0 0]
        replace S := S.al 25 [.bool false, .slice none 0 0] (w4.heap.size)
        refine iv7 H n1 d1 n2 d2 nz na HH ?_; clear n1 d1 n2 d2 nz na HH H; intro n1 d1 n2 d2 nz na HH
        refine ho hKK ⟨(S.c 0 2 rfl rfl), (S.c 1 2 rfl rfl)⟩ fun hS => ?_
        generalize (w4.alloc (.cells #[.bool false, .slice none 0 0] 25)) = w12 at S n1 d1 n2 d2 nz na HH hS ⊢
        clear hKK KK
        refine rd 5 fun KK hKK => ?_
        go_simp; clear hS
        refine S.cl (wnat_any d2 HX.out.2.2 (y.den : Int) rfl) ?_; clear S; rintro e w13 ⟨_, rfl, pb, lb, Kb, rfl, nb⟩ S H
        refine iv7 H n1 d1 n2 d2 nz na HH ?_; clear n1 d1 n2 d2 nz na HH H; intro n1 d1 n2 d2 nz na HH
        go_wp2_with fail
        refine ho hKK ⟨(S.c 0 2 rfl rfl), (S.c 1 2 rfl rfl)⟩ fun hS => ?_
        clear hKK KK
        refine rd 6 fun KK hKK => ?_
        go_simp; clear hS
        refine S.cl (wmul_to ⟨_, _, _, rfl, na⟩ ⟨_, _, _, rfl, nb⟩ HX.out.1.2 HX.out.2.2 D HD.out.2.1 HB.out.2) ?_; clear S; rintro e w14 ⟨_, rfl, pd, ld, Kd, rfl, nd⟩ S H
        refine iv8 H n1 d1 n2 d2 nz na nb HH ?_; clear n1 d1 n2 d2 nz na nb HH H; intro n1 d1 n2 d2 nz na nb HH
        go_wp2_with fail
        refine ho hKK ⟨(S.c 0 2 rfl rfl), (S.c 1 2 rfl rfl)⟩ fun hS => ?_
        clear hKK KK
        refine tk 7 hS ?_
        refine tk 8 hS ?_
        refine tk 9 hS ?_
        refine rd 11 fun KK hKK => ?_
        have c0 := S.c 4 0 rfl rfl; have f0 := S.f 4 0 rfl; have c1 := S.c 4 1 rfl rfl; have f1 := S.f 4 1 rfl; go_simp; clear hS c0 f0 c1 f1
        have H := S.hset 4 0 (.bool (negB D)) rfl rfl (by intro q n e; cases e)
        replace S := S.set 4 0 (.bool (negB D)) rfl
        refine iv8 H n1 d1 n2 d2 nz na nb nd ?_; clear n1 d1 n2 d2 nz na nb nd; intro n1 d1 n2 d2 nz na nb nd; replace HH := HH.trans H; clear H
        have H := S.hset 4 1 (.slice pd ld Kd) rfl rfl (by intro q n e; cases e)
        replace S := S.set 4 1 (.slice pd ld Kd) rfl
        refine iv8 H n1 d1 n2 d2 nz na nb nd ?_; clear n1 d1 n2 d2 nz na nb nd; intro n1 d1 n2 d2 nz na nb nd; replace HH := HH.trans H; clear H
        refine ho hKK ⟨(S.c 0 2 rfl rfl), (S.c 1 2 rfl rfl)⟩ fun hS => ?_
        generalize ((w14.setCell ⟨w4.heap.size, 0, none⟩ (.bool (negB D))).setCell ⟨w4.heap.size, 1, none⟩ (.slice pd ld Kd)) = w15 at S n1 d1 n2 d2 nz na nb nd HH hS ⊢
        clear hKK KK
        refine rd 12 fun KK hKK => ?_
        go_simp
        refine ho hKK hS fun hS => ?_
        clear hKK KK
        refine wpAnyH_done (by kernel_rfl) ?_ _
        go_wp2_with fail
        go_meet
        case rel => exact ⟨w4.heap.size, pd, ld, Kd, rfl, rfl, S, nd, HH⟩
    ·
      go_simp; clear hS
      have H := S.hnew 25 [.bool false, .slice none 0 0]
      replace S := S.al 25 [.bool false, .slice none 0 0] (w3.heap.size)
      refine iv6 H n1 d1 n2 d2 nz HH ?_; clear n1 d1 n2 d2 nz HH H; intro n1 d1 n2 d2 nz HH
      refine ho hKK ⟨(S.c 0 2 rfl rfl), (S.c 1 2 rfl rfl)⟩ fun hS => ?_
      generalize (w3.alloc (.cells #[.bool false, .slice none 0 0] 25)) = w16 at S n1 d1 n2 d2 nz HH hS ⊢
      clear hKK KK
      refine rd 2 fun KK hKK => ?_
      go_simp; clear hS
      refine S.cl (wnat_any d1 HX.out.1.2 (x.den : Int) rfl) ?_; clear S; rintro e w17 ⟨_, rfl, pa, la, Ka, rfl, na⟩ S H
      refine iv6 H n1 d1 n2 d2 nz HH ?_; clear n1 d1 n2 d2 nz HH H; intro n1 d1 n2 d2 nz HH
      go_wp2_with fail
      refine ho hKK ⟨(S.c 0 2 rfl rfl), (S.c 1 2 rfl rfl)⟩ fun hS => ?_
      clear hKK KK
      refine rd 5 fun KK hKK => ?_
      go_simp; clear hS
      refine S.cl (wnat_any d2 HX.out.2.2 (y.den : Int) rfl) ?_; clear S; rintro e w18 ⟨_, rfl, pb, lb, Kb, rfl, nb⟩ S H
      refine iv7 H n1 d1 n2 d2 nz na HH ?_; clear n1 d1 n2 d2 nz na HH H; intro n1 d1 n2 d2 nz na HH
      go_wp2_with fail
      refine ho hKK ⟨(S.c 0 2 rfl rfl), (S.c 1 2 rfl rfl)⟩ fun hS => ?_
      clear hKK KK
      refine rd 6 fun KK hKK => ?_
      go_simp; clear hS
      refine S.cl (wmul_to ⟨_, _, _, rfl, na⟩ ⟨_, _, _, rfl, nb⟩ HX.out.1.2 HX.out.2.2 D HD.out.2.1 HB.out.2) ?_; clear S; rintro e w19 ⟨_, rfl, pd, ld, Kd, rfl, nd⟩ S H
      refine iv8 H n1 d1 n2 d2 nz na nb HH ?_; clear n1 d1 n2 d2 nz na nb HH H; intro n1 d1 n2 d2 nz na nb HH
      go_wp2_with fail
      refine ho hKK ⟨(S.c 0 2 rfl rfl), (S.c 1 2 rfl rfl)⟩ fun hS => ?_
      clear hKK KK
      refine tk 7 hS ?_
      refine tk 8 hS ?_
      refine tk 9 hS ?_
      refine rd 11 fun KK hKK => ?_
      have c0 := S.c 4 0 rfl rfl; have f0 := S.f 4 0 rfl; have c1 := S.c 4 1 rfl rfl; have f1 := S.f 4 1 rfl; go_simp; clear hS c0 f0 c1 f1
      have H := S.hset 4 0 (.bool (negB D)) rfl rfl (by intro q n e; cases e)
      replace S := S.set 4 0 (.bool (negB D)) rfl
      refine iv8 H n1 d1 n2 d2 nz na nb nd ?_; clear n1 d1 n2 d2 nz na nb nd; intro n1 d1 n2 d2 nz na nb nd; replace HH := HH.trans H; clear H
      have H := S.hset 4 1 (.slice pd ld Kd) rfl rfl (by intro q n e; cases e)
      replace S := S.set 4 1 (.slice pd ld Kd) rfl
      refine iv8 H n1 d1 n2 d2 nz na nb nd ?_; clear n1 d1 n2 d2 nz na nb nd; intro n1 d1 n2 d2 nz na nb nd; replace HH := HH.trans H; clear H
      refine ho hKK ⟨(S.c 0 2 rfl rfl), (S.c 1 2 rfl rfl)⟩ fun hS => ?_
      generalize ((w19.setCell ⟨w3.heap.size, 0, none⟩ (.bool (negB D))).setCell ⟨w3.heap.size, 1, none⟩ (.slice pd ld Kd)) = w20 at S n1 d1 n2 d2 nz na nb nd HH hS ⊢
      clear hKK KK
      refine rd 12 fun KK hKK => ?_
      go_simp
      refine ho hKK hS fun hS => ?_
      clear hKK KK
      refine wpAnyH_done (by kernel_rfl) ?_ _
      go_wp2_with fail
      go_meet
      case rel => exact ⟨w3.heap.size, pd, ld, Kd, rfl, rfl, S, nd, HH⟩
  case rest =>
    obtain ⟨g8, pd, ld, Kd, rfl, rfl, S, nd, HH⟩ := hcut
    obtain ⟨w21, rfl⟩ : ∃ W : World, W = wc := ⟨_, rfl⟩
    refine iv5 HH n1 d1 n2 d2 nz ?_; clear n1 d1 n2 d2 nz HH; intro n1 d1 n2 d2 nz; have c0_ := S.c3 0 rfl; have c1_ := S.c3 1 rfl; have c2_ := S.c3 2 rfl; have c3_ := S.c2 3 rfl; have c4_ := S.c2 4 rfl
    go_upto_region 3 with fail
    clear c0_ c1_ c2_ c3_ c4_
    have HH := Hold.drew w21
    refine iv6 HH n1 d1 n2 d2 nz nd ?_; clear n1 d1 n2 d2 nz nd; intro n1 d1 n2 d2 nz nd
    replace S := S.drew
    refine wp_region_held_drew (S := fun W => W.cell? ⟨w1.heap.size, 0, none⟩ = some (.bool (negB Z)) ∧ W.cell? ⟨w1.heap.size, 1, none⟩ = some (.slice pz lz Kz) ∧ W.cell? ⟨g8, 0, none⟩ = some (.bool (negB D)) ∧ W.cell? ⟨g8, 1, none⟩ = some (.slice pd ld Kd)) (by kernel_rfl) ⟨(S.c 3 0 rfl rfl), ⟨(S.c 3 1 rfl rfl), ⟨(S.c 4 0 rfl rfl), (S.c 4 1 rfl rfl)⟩⟩⟩ (fun hS => ?_)
    generalize w21.drew = w22 at S n1 d1 n2 d2 nz nd HH hS ⊢
    refine tk 0 hS ?_
    refine tk 1 hS ?_
    refine tk 2 hS ?_
    refine tk 3 hS ?_
    refine rd 4 fun KK hKK => ?_
    go_simp; clear hS
    have H := S.hnew 36 [.int .i64 0, .int .i64 0]
    replace S := S.al 36 [.int .i64 0, .int .i64 0] (w22.heap.size)
    refine iv7 H n1 d1 n2 d2 nz nd HH ?_; clear n1 d1 n2 d2 nz nd HH H; intro n1 d1 n2 d2 nz nd HH
    refine ho hKK ⟨(S.c 3 0 rfl rfl), ⟨(S.c 3 1 rfl rfl), ⟨(S.c 4 0 rfl rfl), (S.c 4 1 rfl rfl)⟩⟩⟩ fun hS => ?_
    generalize (w22.alloc (.cells #[.int .i64 0, .int .i64 0] 36)) = w23 at S n1 d1 n2 d2 nz nd HH hS ⊢
    clear hKK KK
    refine rd 5 fun KK hKK => ?_
    go_simp; clear hS
    refine S.cl (or_two S 5 rfl) ?_; clear S; rintro e w24 rfl S H
    refine iv7 H n1 d1 n2 d2 nz nd HH ?_; clear n1 d1 n2 d2 nz nd HH H; intro n1 d1 n2 d2 nz nd HH
    go_wp2_with fail
    refine ho hKK ⟨(S.c 3 0 rfl rfl), ⟨(S.c 3 1 rfl rfl), ⟨(S.c 4 0 rfl rfl), (S.c 4 1 rfl rfl)⟩⟩⟩ fun hS => ?_
    clear hKK KK
    refine rd 6 fun KK hKK => ?_
    go_simp; clear hS
    refine S.cl (over_any ⟨_, _, _, rfl, nz⟩ ⟨_, _, _, rfl, nd⟩ HB.out.1 HB.out.2 HD.out.2.2.2 q HD.out.2.2.1) ?_; clear S; rintro e w25 ⟨_, rfl, b, p, l, K, q', j, J, rfl, hb, nn, dd⟩ S H
    refine iv7 H n1 d1 n2 d2 nz nd HH ?_; clear n1 d1 n2 d2 nz nd HH H; intro n1 d1 n2 d2 nz nd HH
    go_wp2_with fail
    refine ho hKK ⟨(S.c 3 0 rfl rfl), ⟨(S.c 3 1 rfl rfl), ⟨(S.c 4 0 rfl rfl), (S.c 4 1 rfl rfl)⟩⟩⟩ fun hS => ?_
    clear hKK KK
    refine tk 7 hS ?_
    refine tk 8 hS ?_
    refine rd 9 fun KK hKK => ?_
    obtain ⟨c0, c1, c2⟩ := S.c3 2 rfl; obtain ⟨f0, f1, f2⟩ := S.f3 2 rfl
    go_simp; clear hS c0 f0 c1 f1 c2 f2
    have HP := S.putq 2 (.bool b) (.slice p l K) (.slice q' j J) rfl rfl; have H := HP.2; replace S := HP.1; clear HP
    refine iv8 H n1 d1 n2 d2 nz nd nn dd ?_; clear n1 d1 n2 d2 nz nd nn dd; intro n1 d1 n2 d2 nz nd nn dd; replace HH := HH.trans H; clear H
    refine ho hKK ⟨(S.c 3 0 rfl rfl), ⟨(S.c 3 1 rfl rfl), ⟨(S.c 4 0 rfl rfl), (S.c 4 1 rfl rfl)⟩⟩⟩ fun hS => ?_
    generalize (((w25.setCell ⟨w.heap.size + 1 + 1, 0, none⟩ (.bool b)).setCell ⟨w.heap.size + 1 + 1, 1, none⟩ (.slice p l K)).setCell ⟨w.heap.size + 1 + 1, 2, none⟩ (.slice q' j J)) = w26 at S n1 d1 n2 d2 nz nd nn dd HH hS ⊢
    clear hKK KK
    refine rd 10 fun KK hKK => ?_
    go_simp
    refine ho hKK hS fun hS => ?_
    clear hKK KK
    refine wpAnyH_done (by kernel_rfl) ?_ _
    clear hS HH; have c0_ := S.c3 0 rfl; have c1_ := S.c3 1 rfl; have c2_ := S.c3 2 rfl; have c3_ := S.c2 3 rfl; have c4_ := S.c2 4 rfl; go_wp2_with fail; obtain ⟨d2_0, d2_1, d2_2⟩ := S.c3 2 rfl
    exact bodyPost_ret (v := .tuple #[.agg #[.bool b, .slice p l K, .slice q' j J], .int .i64 0]) (by simp [results, Tryz.f22, go_sem, d2_0, d2_1, d2_2]) rfl (⟨⟨_, rfl, b, p, l, K, q', j, J, rfl, hb, nn, dd⟩, S.below⟩)
set_option maxRecDepth 100000 in
set_option maxHeartbeats 4000000 in
theorem radd_any {va vb : Value} {x y : Rat} {w : World} (ha : IsRat w va x) (hb : IsRat w vb y) {k1 k2 : Nat} (hx : RB x k1) (hy : RB y k2) (hk : k1 + k2 ≤ 511) (q : Rat) (hq : x + y = q) :
    Calls Tryz.prog 20 #[va, vb] w fun e w' => (∃ u, e = .returned (.tuple #[u, .int .i64 0]) ∧ IsRat w' u q) ∧ Below w.heap.size w w' := by
  obtain ⟨b1, p1, l1, K1, q1, j1, J1, rfl, hb1, n1, d1⟩ := ha
  obtain ⟨b2, p2, l2, K2, q2, j2, J2, rfl, hb2, n2, d2⟩ := hb
  obtain ⟨X, hX⟩ : ∃ X, x.num * y.den = X := ⟨_, rfl⟩
  obtain ⟨Y, hY⟩ : ∃ Y, y.num * x.den = Y := ⟨_, rfl⟩
  obtain ⟨Z, hZ⟩ : ∃ Z, X + Y = Z := ⟨_, rfl⟩
  obtain ⟨D, hD⟩ : ∃ D, ((x.den * y.den : Nat) : Int) = D := ⟨_, rfl⟩
  have hb := rbz hx hy
  rw [hX, hY] at hb
  have hZb : Z.natAbs < NB (k1 + k2 + 1) := hZ ▸ nbz_add hb.1 hb.2.1
  have hD0 : D ≠ 0 := by rw [← hD]; have := Nat.mul_pos x.den_pos y.den_pos; omega
  have hDb : D.natAbs < maxN := by rw [← hD, Int.natAbs_natCast]; exact nb_max hb.2.2.1 (by omega)
  have hdd : (x.den : Int) * (y.den : Int) = D := by rw [← hD, Int.natCast_mul]
  have hq2 : q = Rat.divInt Z D := by rw [← hq, add_divInt, hX, hY, hZ, hD]
  have HX := Lib.hid (And.intro (rb_max hx (by omega)) (rb_max hy (by omega)))
  have HD := Lib.hid (And.intro hX (And.intro hY (And.intro hZ (And.intro hdd (And.intro hq2 hD0)))))
  have HB := Lib.hid (And.intro (nb_max hb.1 (by omega)) (And.intro (nb_max hb.2.1 (by omega)) (And.intro (nb_max hZb (by omega)) hDb)))
  clear hX hY hZ hD hb hZb hD0 hDb hdd hq hq2 hx hy hk
  have S := (((St.start w).alloc 34 [.bool b1, .slice p1 l1 K1, .slice q1 j1 J1] (w.heap.size)).alloc 34 [.bool b2, .slice p2 l2 K2, .slice q2 j2 J2] (w.heap.size + 1)).alloc 34 [.bool false, .slice none 0 0, .slice none 0 0] (w.heap.size + 1 + 1)
  try simp only [List.cons_append, List.nil_append] at S
  refine iv4 S.hold n1 d1 n2 d2 ?_; clear n1 d1 n2 d2; intro n1 d1 n2 d2
  have c0_ := S.c3 0 rfl; have c1_ := S.c3 1 rfl; have c2_ := S.c3 2 rfl
  go_enter Tryz.func20, Tryz.ntmps20
  go_wp2_with fail; clear c0_ c1_ c2_
  refine S.cl (cross_any ⟨b1, p1, l1, K1, q1, j1, J1, rfl, hb1, n1, d1⟩ ⟨b2, p2, l2, K2, q2, j2, J2, rfl, hb2, n2, d2⟩ HX.out.1.1 HX.out.1.2 HX.out.2.1 HX.out.2.2 X Y HD.out.1 HD.out.2.1 HB.out.1 HB.out.2.1) ?_; clear S; rintro e w1 ⟨_, _, rfl, ⟨px, lx, Kx, rfl, nx⟩, ⟨py, ly, Ky, rfl, ny⟩⟩ S H
  refine iv4 H n1 d1 n2 d2 ?_; clear n1 d1 n2 d2; intro n1 d1 n2 d2
  clear H; have c0_ := S.c3 0 rfl; have c1_ := S.c3 1 rfl; have c2_ := S.c3 2 rfl
  have H := S.hnew 25 [.bool (negB X), .slice px lx Kx]
  replace S := S.al 25 [.bool (negB X), .slice px lx Kx] (w1.heap.size)
  refine iv6 H n1 d1 n2 d2 nx ny ?_; clear n1 d1 n2 d2 nx ny; intro n1 d1 n2 d2 nx ny
  clear H
  have H := S.hnew 25 [.bool (negB Y), .slice py ly Ky]
  replace S := S.al 25 [.bool (negB Y), .slice py ly Ky] (w1.heap.size + 1)
  refine iv6 H n1 d1 n2 d2 nx ny ?_; clear n1 d1 n2 d2 nx ny; intro n1 d1 n2 d2 nx ny
  clear H; clear c0_ c1_ c2_; have c0_ := S.c3 0 rfl; have c1_ := S.c3 1 rfl; have c2_ := S.c3 2 rfl; have c3_ := S.c2 3 rfl; have c4_ := S.c2 4 rfl; go_wp2_with fail; clear c0_ c1_ c2_ c3_ c4_
  refine S.cl (wadd_to ⟨_, _, _, rfl, nx⟩ ⟨_, _, _, rfl, ny⟩ HB.out.1 HB.out.2.1 Z HD.out.2.2.1 HB.out.2.2.1) ?_; clear S; rintro e w2 ⟨_, rfl, pz, lz, Kz, rfl, nz⟩ S H
  refine iv6 H n1 d1 n2 d2 nx ny ?_; clear n1 d1 n2 d2 nx ny; intro n1 d1 n2 d2 nx ny
  clear H; have c0_ := S.c3 0 rfl; have c1_ := S.c3 1 rfl; have c2_ := S.c3 2 rfl; have c3_ := S.c2 3 rfl; have c4_ := S.c2 4 rfl
  have H := S.hnew 25 [.bool (negB Z), .slice pz lz Kz]
  replace S := S.al 25 [.bool (negB Z), .slice pz lz Kz] (w2.heap.size)
  refine iv7 H n1 d1 n2 d2 nx ny nz ?_; clear n1 d1 n2 d2 nx ny nz; intro n1 d1 n2 d2 nx ny nz
  clear H; clear c0_ c1_ c2_ c3_ c4_; have c0_ := S.c3 0 rfl; have c1_ := S.c3 1 rfl; have c2_ := S.c3 2 rfl; have c3_ := S.c2 3 rfl; have c4_ := S.c2 4 rfl; have c5_ := S.c2 5 rfl
  go_upto_region 5 with fail
  clear c0_ c1_ c2_ c3_ c4_ c5_
  generalize (w2.alloc (.cells #[.bool (negB Z), .slice pz lz Kz] 25)) = w3 at S n1 d1 n2 d2 nx ny nz ⊢
  go_cut [10, 11] (fun s10 s11 wx => ∃ g10 pd ld Kd, s10 = .pointer (some ⟨g10, 0, none⟩) ∧ s11 = .int .i64 0 ∧ St w wx [(w.heap.size, 34, [.bool b1, .slice p1 l1 K1, .slice q1 j1 J1]), (w.heap.size + 1, 34, [.bool b2, .slice p2 l2 K2, .slice q2 j2 J2]), (w.heap.size + 1 + 1, 34, [.bool false, .slice none 0 0, .slice none 0 0]), (w1.heap.size, 25, [.bool (negB X), .slice px lx Kx]), (w1.heap.size + 1, 25, [.bool (negB Y), .slice py ly Ky]), (w2.heap.size, 25, [.bool (negB Z), .slice pz lz Kz]), (g10, 25, [.bool (negB D), .slice pd ld Kd])] ∧ IsNat wx (.slice pd ld Kd) D.natAbs ∧ Hold w3 wx)
  case first =>
    have HH := Hold.drew w3
    refine iv7 HH n1 d1 n2 d2 nx ny nz ?_; clear n1 d1 n2 d2 nx ny nz; intro n1 d1 n2 d2 nx ny nz
    replace S := S.drew
    refine wp_region_held_drew (S := fun W => W.cell? ⟨w.heap.size, 2, none⟩ = some (.slice q1 j1 J1) ∧ W.cell? ⟨w.heap.size + 1, 2, none⟩ = some (.slice q2 j2 J2)) (by kernel_rfl) ⟨(S.c 0 2 rfl rfl), (S.c 1 2 rfl rfl)⟩ (fun hS => ?_)
    generalize w3.drew = w4 at S n1 d1 n2 d2 nx ny nz HH hS ⊢
    refine tk 0 hS ?_
    refine tk 1 hS ?_
    refine tk 3 hS ?_
    refine tk 4 hS ?_
    refine wpAnyH_ready (rs := [2, 10]) (by kernel_rfl) (by simp) (AllReadyH.cons (opOf rfl) (fun KK hKK => ?_) (AllReadyH.cons (opOf rfl) (fun KK hKK => ?_) AllReadyH.nil))
    ·
      go_simp; clear hS
      refine S.cl (wnat_any d1 HX.out.1.2 (x.den : Int) rfl) ?_; clear S; rintro e w5 ⟨_, rfl, pa, la, Ka, rfl, na⟩ S H
      refine iv8 H n1 d1 n2 d2 nx ny nz HH ?_; clear n1 d1 n2 d2 nx ny nz HH H; intro n1 d1 n2 d2 nx ny nz HH
      go_wp2_with fail
      refine ho hKK ⟨(S.c 0 2 rfl rfl), (S.c 1 2 rfl rfl)⟩ fun hS => ?_
      clear hKK KK
      refine wpAnyH_ready (rs := [5, 10]) (by kernel_rfl) (by simp) (AllReadyH.cons (opOf rfl) (fun KK hKK => ?_) (AllReadyH.cons (opOf rfl) (fun KK hKK => ?_) AllReadyH.nil))
      ·
        go_simp; clear hS
        refine S.cl (wnat_any d2 HX.out.2.2 (y.den : Int) rfl) ?_; clear S; rintro e w6 ⟨_, rfl, pb, lb, Kb, rfl, nb⟩ S H
        refine iv8 H n1 d1 n2 d2 nx ny nz na ?_; clear n1 d1 n2 d2 nx ny nz na; intro n1 d1 n2 d2 nx ny nz na; replace HH := HH.trans H; clear H
        go_wp2_with fail
        refine ho hKK ⟨(S.c 0 2 rfl rfl), (S.c 1 2 rfl rfl)⟩ fun hS => ?_
        clear hKK KK
        refine wpAnyH_ready (rs := [6, 10]) (by kernel_rfl) (by simp) (AllReadyH.cons (opOf rfl) (fun KK hKK => ?_) (AllReadyH.cons (opOf rfl) (fun KK hKK => ?_) AllReadyH.nil))
        ·
          go_simp; clear hS
          refine S.cl (wmul_to ⟨_, _, _, rfl, na⟩ ⟨_, _, _, rfl, nb⟩ HX.out.1.2 HX.out.2.2 D HD.out.2.2.2.1 HB.out.2.2.2) ?_; clear S; rintro e w7 ⟨_, rfl, pd, ld, Kd, rfl, nd⟩ S H
          refine iv8 H n1 d1 n2 d2 nx ny nz na ?_; clear n1 d1 n2 d2 nx ny nz na; intro n1 d1 n2 d2 nx ny nz na; refine iv2 H nb HH ?_; clear nb HH H; intro nb HH
          go_wp2_with fail
          refine ho hKK ⟨(S.c 0 2 rfl rfl), (S.c 1 2 rfl rfl)⟩ fun hS => ?_
          clear hKK KK
          refine tk 7 hS ?_
          refine tk 8 hS ?_
          refine tk 9 hS ?_
          refine rd 10 fun KK hKK => ?_
          go_simp; clear hS
          have H := S.hnew 25 [.bool false, .slice none 0 0]
          replace S := S.al 25 [.bool false, .slice none 0 0] (w7.heap.size)
          refine iv8 H n1 d1 n2 d2 nx ny nz na ?_; clear n1 d1 n2 d2 nx ny nz na; intro n1 d1 n2 d2 nx ny nz na; refine iv3 H nb nd HH ?_; clear nb nd HH H; intro nb nd HH
          refine ho hKK ⟨(S.c 0 2 rfl rfl), (S.c 1 2 rfl rfl)⟩ fun hS => ?_
          generalize (w7.alloc (.cells #[.bool false, .slice none 0 0] 25)) = w8 at S n1 d1 n2 d2 nx ny nz na nb nd HH hS ⊢
          clear hKK KK
          refine rd 11 fun KK hKK => ?_
          have c0 := S.c 6 0 rfl rfl; have f0 := S.f 6 0 rfl; have c1 := S.c 6 1 rfl rfl; have f1 := S.f 6 1 rfl; go_simp; clear hS c0 f0 c1 f1
          have H := S.hset 6 0 (.bool (negB D)) rfl rfl (by intro q n e; cases e)
          replace S := S.set 6 0 (.bool (negB D)) rfl
          refine iv8 H n1 d1 n2 d2 nx ny nz na ?_; clear n1 d1 n2 d2 nx ny nz na; intro n1 d1 n2 d2 nx ny nz na; refine iv3 H nb nd HH ?_; clear nb nd HH H; intro nb nd HH
          have H := S.hset 6 1 (.slice pd ld Kd) rfl rfl (by intro q n e; cases e)
          replace S := S.set 6 1 (.slice pd ld Kd) rfl
          refine iv8 H n1 d1 n2 d2 nx ny nz na ?_; clear n1 d1 n2 d2 nx ny nz na; intro n1 d1 n2 d2 nx ny nz na; refine iv3 H nb nd HH ?_; clear nb nd HH H; intro nb nd HH
          refine ho hKK ⟨(S.c 0 2 rfl rfl), (S.c 1 2 rfl rfl)⟩ fun hS => ?_
          generalize ((w8.setCell ⟨w7.heap.size, 0, none⟩ (.bool (negB D))).setCell ⟨w7.heap.size, 1, none⟩ (.slice pd ld Kd)) = w9 at S n1 d1 n2 d2 nx ny nz na nb nd HH hS ⊢
          clear hKK KK
          refine rd 12 fun KK hKK => ?_
          go_simp
          refine ho hKK hS fun hS => ?_
          clear hKK KK
          refine wpAnyH_done (by kernel_rfl) ?_ _
          go_wp2_with fail
          go_meet
          case rel => exact ⟨w7.heap.size, pd, ld, Kd, rfl, rfl, S, nd, HH⟩
        ·
          go_simp; clear hS
          have H := S.hnew 25 [.bool false, .slice none 0 0]
          replace S := S.al 25 [.bool false, .slice none 0 0] (w6.heap.size)
          refine iv8 H n1 d1 n2 d2 nx ny nz na ?_; clear n1 d1 n2 d2 nx ny nz na; intro n1 d1 n2 d2 nx ny nz na; refine iv2 H nb HH ?_; clear nb HH H; intro nb HH
          refine ho hKK ⟨(S.c 0 2 rfl rfl), (S.c 1 2 rfl rfl)⟩ fun hS => ?_
          generalize (w6.alloc (.cells #[.bool false, .slice none 0 0] 25)) = w10 at S n1 d1 n2 d2 nx ny nz na nb HH hS ⊢
          clear hKK KK
          refine rd 6 fun KK hKK => ?_
          go_simp; clear hS
          refine S.cl (wmul_to ⟨_, _, _, rfl, na⟩ ⟨_, _, _, rfl, nb⟩ HX.out.1.2 HX.out.2.2 D HD.out.2.2.2.1 HB.out.2.2.2) ?_; clear S; rintro e w11 ⟨_, rfl, pd, ld, Kd, rfl, nd⟩ S H
          refine iv8 H n1 d1 n2 d2 nx ny nz na ?_; clear n1 d1 n2 d2 nx ny nz na; intro n1 d1 n2 d2 nx ny nz na; refine iv2 H nb HH ?_; clear nb HH H; intro nb HH
          go_wp2_with fail
          refine ho hKK ⟨(S.c 0 2 rfl rfl), (S.c 1 2 rfl rfl)⟩ fun hS => ?_
          clear hKK KK
          refine tk 7 hS ?_
          refine tk 8 hS ?_
          refine tk 9 hS ?_
          refine rd 11 fun KK hKK => ?_
          have c0 := S.c 6 0 rfl rfl; have f0 := S.f 6 0 rfl; have c1 := S.c 6 1 rfl rfl; have f1 := S.f 6 1 rfl; go_simp; clear hS c0 f0 c1 f1
          have H := S.hset 6 0 (.bool (negB D)) rfl rfl (by intro q n e; cases e)
          replace S := S.set 6 0 (.bool (negB D)) rfl
          refine iv8 H n1 d1 n2 d2 nx ny nz na ?_; clear n1 d1 n2 d2 nx ny nz na; intro n1 d1 n2 d2 nx ny nz na; refine iv3 H nb nd HH ?_; clear nb nd HH H; intro nb nd HH
          have H := S.hset 6 1 (.slice pd ld Kd) rfl rfl (by intro q n e; cases e)
          replace S := S.set 6 1 (.slice pd ld Kd) rfl
          refine iv8 H n1 d1 n2 d2 nx ny nz na ?_; clear n1 d1 n2 d2 nx ny nz na; intro n1 d1 n2 d2 nx ny nz na; refine iv3 H nb nd HH ?_; clear nb nd HH H; intro nb nd HH
          refine ho hKK ⟨(S.c 0 2 rfl rfl), (S.c 1 2 rfl rfl)⟩ fun hS => ?_
          generalize ((w11.setCell ⟨w6.heap.size, 0, none⟩ (.bool (negB D))).setCell ⟨w6.heap.size, 1, none⟩ (.slice pd ld Kd)) = w12 at S n1 d1 n2 d2 nx ny nz na nb nd HH hS ⊢
          clear hKK KK
          refine rd 12 fun KK hKK => ?_
          go_simp
          refine ho hKK hS fun hS => ?_
          clear hKK KK
          refine wpAnyH_done (by kernel_rfl) ?_ _
          go_wp2_with fail
          go_meet
          case rel => exact ⟨w6.heap.size, pd, ld, Kd, rfl, rfl, S, nd, HH⟩
      ·
        go_simp; clear hS
        have H := S.hnew 25 [.bool false, .slice none 0 0]
        replace S := S.al 25 [.bool false, .slice none 0 0] (w5.heap.size)
        refine iv8 H n1 d1 n2 d2 nx ny nz na ?_; clear n1 d1 n2 d2 nx ny nz na; intro n1 d1 n2 d2 nx ny nz na; replace HH := HH.trans H; clear H
        refine ho hKK ⟨(S.c 0 2 rfl rfl), (S.c 1 2 rfl rfl)⟩ fun hS => ?_
        generalize (w5.alloc (.cells #[.bool false, .slice none 0 0] 25)) = w13 at S n1 d1 n2 d2 nx ny nz na HH hS ⊢
        clear hKK KK
        refine rd 5 fun KK hKK => ?_
        go_simp; clear hS
        refine S.cl (wnat_any d2 HX.out.2.2 (y.den : Int) rfl) ?_; clear S; rintro e w14 ⟨_, rfl, pb, lb, Kb, rfl, nb⟩ S H
        refine iv8 H n1 d1 n2 d2 nx ny nz na ?_; clear n1 d1 n2 d2 nx ny nz na; intro n1 d1 n2 d2 nx ny nz na; replace HH := HH.trans H; clear H
        go_wp2_with fail
        refine ho hKK ⟨(S.c 0 2 rfl rfl), (S.c 1 2 rfl rfl)⟩ fun hS => ?_
        clear hKK KK
        refine rd 6 fun KK hKK => ?_
        go_simp; clear hS
        refine S.cl (wmul_to ⟨_, _, _, rfl, na⟩ ⟨_, _, _, rfl, nb⟩ HX.out.1.2 HX.out.2.2 D HD.out.2.2.2.1 HB.out.2.2.2) ?_; clear S; rintro e w15 ⟨_, rfl, pd, ld, Kd, rfl, nd⟩ S H
        refine iv8 H n1 d1 n2 d2 nx ny nz na ?_; clear n1 d1 n2 d2 nx ny nz na; intro n1 d1 n2 d2 nx ny nz na; refine iv2 H nb HH ?_; clear nb HH H; intro nb HH
        go_wp2_with fail
        refine ho hKK ⟨(S.c 0 2 rfl rfl), (S.c 1 2 rfl rfl)⟩ fun hS => ?_
        clear hKK KK
        refine tk 7 hS ?_
        refine tk 8 hS ?_
        refine tk 9 hS ?_
        refine rd 11 fun KK hKK => ?_
        have c0 := S.c 6 0 rfl rfl; have f0 := S.f 6 0 rfl; have c1 := S.c 6 1 rfl rfl; have f1 := S.f 6 1 rfl; go_simp; clear hS c0 f0 c1 f1
        have H := S.hset 6 0 (.bool (negB D)) rfl rfl (by intro q n e; cases e)
        replace S := S.set 6 0 (.bool (negB D)) rfl
        refine iv8 H n1 d1 n2 d2 nx ny nz na ?_; clear n1 d1 n2 d2 nx ny nz na; intro n1 d1 n2 d2 nx ny nz na; refine iv3 H nb nd HH ?_; clear nb nd HH H; intro nb nd HH
        have H := S.hset 6 1 (.slice pd ld Kd) rfl rfl (by intro q n e; cases e)
        replace S := S.set 6 1 (.slice pd ld Kd) rfl
        refine iv8 H n1 d1 n2 d2 nx ny nz na ?_; clear n1 d1 n2 d2 nx ny nz na; intro n1 d1 n2 d2 nx ny nz na; refine iv3 H nb nd HH ?_; clear nb nd HH H; intro nb nd HH
        refine ho hKK ⟨(S.c 0 2 rfl rfl), (S.c 1 2 rfl rfl)⟩ fun hS => ?_
        generalize ((w15.setCell ⟨w5.heap.size, 0, none⟩ (.bool (negB D))).setCell ⟨w5.heap.size, 1, none⟩ (.slice pd ld Kd)) = w16 at S n1 d1 n2 d2 nx ny nz na nb nd HH hS ⊢
        clear hKK KK
        refine rd 12 fun KK hKK => ?_
        go_simp
        refine ho hKK hS fun hS => ?_
        clear hKK KK
        refine wpAnyH_done (by kernel_rfl) ?_ _
        go_wp2_with fail
        go_meet
        case rel => exact ⟨w5.heap.size, pd, ld, Kd, rfl, rfl, S, nd, HH⟩
    ·
      go_simp; clear hS
      have H := S.hnew 25 [.bool false, .slice none 0 0]
      replace S := S.al 25 [.bool false, .slice none 0 0] (w4.heap.size)
      refine iv8 H n1 d1 n2 d2 nx ny nz HH ?_; clear n1 d1 n2 d2 nx ny nz HH H; intro n1 d1 n2 d2 nx ny nz HH
      refine ho hKK ⟨(S.c 0 2 rfl rfl), (S.c 1 2 rfl rfl)⟩ fun hS => ?_
      generalize (w4.alloc (.cells #[.bool false, .slice none 0 0] 25)) = w17 at S n1 d1 n2 d2 nx ny nz HH hS ⊢
      clear hKK KK
      refine rd 2 fun KK hKK => ?_
      go_simp; clear hS
      refine S.cl (wnat_any d1 HX.out.1.2 (x.den : Int) rfl) ?_; clear S; rintro e w18 ⟨_, rfl, pa, la, Ka, rfl, na⟩ S H
      refine iv8 H n1 d1 n2 d2 nx ny nz HH ?_; clear n1 d1 n2 d2 nx ny nz HH H; intro n1 d1 n2 d2 nx ny nz HH
      go_wp2_with fail
      refine ho hKK ⟨(S.c 0 2 rfl rfl), (S.c 1 2 rfl rfl)⟩ fun hS => ?_
      clear hKK KK
      refine rd 5 fun KK hKK => ?_
      go_simp; clear hS
      refine S.cl (wnat_any d2 HX.out.2.2 (y.den : Int) rfl) ?_; clear S; rintro e w19 ⟨_, rfl, pb, lb, Kb, rfl, nb⟩ S H
      refine iv8 H n1 d1 n2 d2 nx ny nz na ?_; clear n1 d1 n2 d2 nx ny nz na; intro n1 d1 n2 d2 nx ny nz na; replace HH := HH.trans H; clear H
      go_wp2_with fail
      refine ho hKK ⟨(S.c 0 2 rfl rfl), (S.c 1 2 rfl rfl)⟩ fun hS => ?_
      clear hKK KK
      refine rd 6 fun KK hKK => ?_
      go_simp; clear hS
      refine S.cl (wmul_to ⟨_, _, _, rfl, na⟩ ⟨_, _, _, rfl, nb⟩ HX.out.1.2 HX.out.2.2 D HD.out.2.2.2.1 HB.out.2.2.2) ?_; clear S; rintro e w20 ⟨_, rfl, pd, ld, Kd, rfl, nd⟩ S H
      refine iv8 H n1 d1 n2 d2 nx ny nz na ?_; clear n1 d1 n2 d2 nx ny nz na; intro n1 d1 n2 d2 nx ny nz na; refine iv2 H nb HH ?_; clear nb HH H; intro nb HH
      go_wp2_with fail
      refine ho hKK ⟨(S.c 0 2 rfl rfl), (S.c 1 2 rfl rfl)⟩ fun hS => ?_
      clear hKK KK
      refine tk 7 hS ?_
      refine tk 8 hS ?_
      refine tk 9 hS ?_
      refine rd 11 fun KK hKK => ?_
      have c0 := S.c 6 0 rfl rfl; have f0 := S.f 6 0 rfl; have c1 := S.c 6 1 rfl rfl; have f1 := S.f 6 1 rfl; go_simp; clear hS c0 f0 c1 f1
      have H := S.hset 6 0 (.bool (negB D)) rfl rfl (by intro q n e; cases e)
      replace S := S.set 6 0 (.bool (negB D)) rfl
      refine iv8 H n1 d1 n2 d2 nx ny nz na ?_; clear n1 d1 n2 d2 nx ny nz na; intro n1 d1 n2 d2 nx ny nz na; refine iv3 H nb nd HH ?_; clear nb nd HH H; intro nb nd HH
      have H := S.hset 6 1 (.slice pd ld Kd) rfl rfl (by intro q n e; cases e)
      replace S := S.set 6 1 (.slice pd ld Kd) rfl
      refine iv8 H n1 d1 n2 d2 nx ny nz na ?_; clear n1 d1 n2 d2 nx ny nz na; intro n1 d1 n2 d2 nx ny nz na; refine iv3 H nb nd HH ?_; clear nb nd HH H; intro nb nd HH
      refine ho hKK ⟨(S.c 0 2 rfl rfl), (S.c 1 2 rfl rfl)⟩ fun hS => ?_
      generalize ((w20.setCell ⟨w4.heap.size, 0, none⟩ (.bool (negB D))).setCell ⟨w4.heap.size, 1, none⟩ (.slice pd ld Kd)) = w21 at S n1 d1 n2 d2 nx ny nz na nb nd HH hS ⊢
      clear hKK KK
      refine rd 12 fun KK hKK => ?_
      go_simp
      refine ho hKK hS fun hS => ?_
      clear hKK KK
      refine wpAnyH_done (by kernel_rfl) ?_ _
      go_wp2_with fail
      go_meet
      case rel => exact ⟨w4.heap.size, pd, ld, Kd, rfl, rfl, S, nd, HH⟩
  case rest =>
    obtain ⟨g10, pd, ld, Kd, rfl, rfl, S, nd, HH⟩ := hcut
    obtain ⟨w22, rfl⟩ : ∃ W : World, W = wc := ⟨_, rfl⟩
    refine iv7 HH n1 d1 n2 d2 nx ny nz ?_; clear n1 d1 n2 d2 nx ny nz HH; intro n1 d1 n2 d2 nx ny nz; have c0_ := S.c3 0 rfl; have c1_ := S.c3 1 rfl; have c2_ := S.c3 2 rfl; have c3_ := S.c2 3 rfl; have c4_ := S.c2 4 rfl; have c5_ := S.c2 5 rfl; have c6_ := S.c2 6 rfl
    go_upto_region 6 with fail
    clear c0_ c1_ c2_ c3_ c4_ c5_ c6_
    have HH := Hold.drew w22
    refine iv8 HH n1 d1 n2 d2 nx ny nz nd ?_; clear n1 d1 n2 d2 nx ny nz nd; intro n1 d1 n2 d2 nx ny nz nd
    replace S := S.drew
    refine wp_region_held_drew (S := fun W => W.cell? ⟨w2.heap.size, 0, none⟩ = some (.bool (negB Z)) ∧ W.cell? ⟨w2.heap.size, 1, none⟩ = some (.slice pz lz Kz) ∧ W.cell? ⟨g10, 0, none⟩ = some (.bool (negB D)) ∧ W.cell? ⟨g10, 1, none⟩ = some (.slice pd ld Kd)) (by kernel_rfl) ⟨(S.c 5 0 rfl rfl), ⟨(S.c 5 1 rfl rfl), ⟨(S.c 6 0 rfl rfl), (S.c 6 1 rfl rfl)⟩⟩⟩ (fun hS => ?_)
    generalize w22.drew = w23 at S n1 d1 n2 d2 nx ny nz nd HH hS ⊢
    refine tk 0 hS ?_
    refine tk 1 hS ?_
    refine tk 2 hS ?_
    refine tk 3 hS ?_
    refine rd 4 fun KK hKK => ?_
    go_simp; clear hS
    have H := S.hnew 36 [.int .i64 0, .int .i64 0]
    replace S := S.al 36 [.int .i64 0, .int .i64 0] (w23.heap.size)
    refine iv8 H n1 d1 n2 d2 nx ny nz nd ?_; clear n1 d1 n2 d2 nx ny nz nd; intro n1 d1 n2 d2 nx ny nz nd; replace HH := HH.trans H; clear H
    refine ho hKK ⟨(S.c 5 0 rfl rfl), ⟨(S.c 5 1 rfl rfl), ⟨(S.c 6 0 rfl rfl), (S.c 6 1 rfl rfl)⟩⟩⟩ fun hS => ?_
    generalize (w23.alloc (.cells #[.int .i64 0, .int .i64 0] 36)) = w24 at S n1 d1 n2 d2 nx ny nz nd HH hS ⊢
    clear hKK KK
    refine rd 5 fun KK hKK => ?_
    go_simp; clear hS
    refine S.cl (or_two S 7 rfl) ?_; clear S; rintro e w25 rfl S H
    refine iv8 H n1 d1 n2 d2 nx ny nz nd ?_; clear n1 d1 n2 d2 nx ny nz nd; intro n1 d1 n2 d2 nx ny nz nd; replace HH := HH.trans H; clear H
    go_wp2_with fail
    refine ho hKK ⟨(S.c 5 0 rfl rfl), ⟨(S.c 5 1 rfl rfl), ⟨(S.c 6 0 rfl rfl), (S.c 6 1 rfl rfl)⟩⟩⟩ fun hS => ?_
    clear hKK KK
    refine rd 6 fun KK hKK => ?_
    go_simp; clear hS
    refine S.cl (over_any ⟨_, _, _, rfl, nz⟩ ⟨_, _, _, rfl, nd⟩ HB.out.2.2.1 HB.out.2.2.2 HD.out.2.2.2.2.2 q HD.out.2.2.2.2.1) ?_; clear S; rintro e w26 ⟨_, rfl, b, p, l, K, q', j, J, rfl, hb, nn, dd⟩ S H
    refine iv8 H n1 d1 n2 d2 nx ny nz nd ?_; clear n1 d1 n2 d2 nx ny nz nd; intro n1 d1 n2 d2 nx ny nz nd; replace HH := HH.trans H; clear H
    go_wp2_with fail
    refine ho hKK ⟨(S.c 5 0 rfl rfl), ⟨(S.c 5 1 rfl rfl), ⟨(S.c 6 0 rfl rfl), (S.c 6 1 rfl rfl)⟩⟩⟩ fun hS => ?_
    clear hKK KK
    refine tk 7 hS ?_
    refine tk 8 hS ?_
    refine rd 9 fun KK hKK => ?_
    obtain ⟨c0, c1, c2⟩ := S.c3 2 rfl; obtain ⟨f0, f1, f2⟩ := S.f3 2 rfl
    go_simp; clear hS c0 f0 c1 f1 c2 f2
    have HP := S.putq 2 (.bool b) (.slice p l K) (.slice q' j J) rfl rfl; have H := HP.2; replace S := HP.1; clear HP
    refine iv8 H n1 d1 n2 d2 nx ny nz nd ?_; clear n1 d1 n2 d2 nx ny nz nd; intro n1 d1 n2 d2 nx ny nz nd; refine iv3 H nn dd HH ?_; clear nn dd HH H; intro nn dd HH
    refine ho hKK ⟨(S.c 5 0 rfl rfl), ⟨(S.c 5 1 rfl rfl), ⟨(S.c 6 0 rfl rfl), (S.c 6 1 rfl rfl)⟩⟩⟩ fun hS => ?_
    generalize (((w26.setCell ⟨w.heap.size + 1 + 1, 0, none⟩ (.bool b)).setCell ⟨w.heap.size + 1 + 1, 1, none⟩ (.slice p l K)).setCell ⟨w.heap.size + 1 + 1, 2, none⟩ (.slice q' j J)) = w27 at S n1 d1 n2 d2 nx ny nz nd nn dd HH hS ⊢
    clear hKK KK
    refine rd 10 fun KK hKK => ?_
    go_simp
    refine ho hKK hS fun hS => ?_
    clear hKK KK
    refine wpAnyH_done (by kernel_rfl) ?_ _
    clear hS HH; have c0_ := S.c3 0 rfl; have c1_ := S.c3 1 rfl; have c2_ := S.c3 2 rfl; have c3_ := S.c2 3 rfl; have c4_ := S.c2 4 rfl; have c5_ := S.c2 5 rfl; have c6_ := S.c2 6 rfl; go_wp2_with fail; obtain ⟨d2_0, d2_1, d2_2⟩ := S.c3 2 rfl
    exact bodyPost_ret (v := .tuple #[.agg #[.bool b, .slice p l K, .slice q' j J], .int .i64 0]) (by simp [results, Tryz.f20, go_sem, d2_0, d2_1, d2_2]) rfl (⟨⟨_, rfl, b, p, l, K, q', j, J, rfl, hb, nn, dd⟩, S.below⟩)
set_option maxRecDepth 100000 in
set_option maxHeartbeats 4000000 in
theorem rneg_any {va : Value} {x : Rat} {w : World} (ha : IsRat w va x) (hx : x.num.natAbs < maxN ∧ x.den < maxN) (q : Rat) (hq : -x = q) :
    Calls Tryz.prog 78 #[va] w fun e w' => (∃ u, e = .returned u ∧ IsRat w' u q) ∧ Below w.heap.size w w' := by
  obtain ⟨b1, p1, l1, K1, q1, j1, J1, rfl, hb1, n1, d1⟩ := ha
  have HX := Lib.hid hx
  have HQ := Lib.hid (And.intro (show q.num = -x.num by rw [← hq, Rat.neg_num]) (show q.den = x.den by rw [← hq, Rat.neg_den]))
  clear hx hq
  have S := ((St.start w).alloc 34 [.bool b1, .slice p1 l1 K1, .slice q1 j1 J1] (w.heap.size)).alloc 34 [.bool false, .slice none 0 0, .slice none 0 0] (w.heap.size + 1)
  try simp only [List.cons_append, List.nil_append] at S
  replace n1 := n1.hold S.hold; replace d1 := d1.hold S.hold
  have c0_ := S.c3 0 rfl; have c1_ := S.c3 1 rfl
  go_enter Tryz.func78, Tryz.ntmps78
  go_upto_region 1 with fail
  clear c0_ c1_
  generalize ((w.alloc (.cells #[.bool b1, .slice p1 l1 K1, .slice q1 j1 J1] 34)).alloc (.cells #[.bool false, .slice none 0 0, .slice none 0 0] 34)) = w1 at S n1 d1 ⊢
  have HH := Hold.drew w1
  replace n1 := n1.hold HH; replace d1 := d1.hold HH
  replace S := S.drew
  refine wp_region_held_drew (S := fun W => W.cell? ⟨w.heap.size, 0, none⟩ = some (.bool b1) ∧ W.cell? ⟨w.heap.size, 1, none⟩ = some (.slice p1 l1 K1) ∧ W.cell? ⟨w.heap.size, 2, none⟩ = some (.slice q1 j1 J1)) (by kernel_rfl) (S.c3 0 rfl) (fun hS => ?_)
  generalize w1.drew = w2 at S n1 d1 HH hS ⊢
  refine tk 0 hS ?_
  refine tk 1 hS ?_
  refine tk 3 hS ?_
  refine tk 4 hS ?_
  refine rd 2 fun KK hKK => ?_
  go_simp; clear hS
  refine S.cl (wneg_to ⟨_, _, _, by rw [hb1.out], n1⟩ HX.out.1 (-x.num) rfl) ?_; clear S; rintro e w3 ⟨_, rfl, pa, la, Ka, rfl, na⟩ S H
  refine iv3 H n1 d1 HH ?_; clear n1 d1 HH H; intro n1 d1 HH
  go_wp2_with fail
  refine ho hKK (S.c3 0 rfl) fun hS => ?_
  clear hKK KK
  refine rd 5 fun KK hKK => ?_
  go_simp; clear hS
  refine S.cl (clone_any d1 HX.out.2) ?_; clear S; rintro e w4 ⟨_, rfl, nc⟩ S H
  refine iv4 H n1 d1 na HH ?_; clear n1 d1 na HH H; intro n1 d1 na HH
  obtain ⟨pc, lc, Kc, rfl⟩ := nc.form
  go_wp2_with fail
  refine ho hKK (S.c3 0 rfl) fun hS => ?_
  clear hKK KK
  refine tk 6 hS ?_
  refine rd 7 fun KK hKK => ?_
  obtain ⟨c0, c1, c2⟩ := S.c3 1 rfl; obtain ⟨f0, f1, f2⟩ := S.f3 1 rfl
  go_simp; clear hS c0 f0 c1 f1 c2 f2
  have HP := S.putq 1 (.bool (negB (-x.num))) (.slice pa la Ka) (.slice pc lc Kc) rfl rfl; have H := HP.2; replace S := HP.1; clear HP
  refine iv5 H n1 d1 na nc HH ?_; clear n1 d1 na nc HH H; intro n1 d1 na nc HH
  refine ho hKK (S.c3 0 rfl) fun hS => ?_
  generalize (((w4.setCell ⟨w.heap.size + 1, 0, none⟩ (.bool (negB (-x.num)))).setCell ⟨w.heap.size + 1, 1, none⟩ (.slice pa la Ka)).setCell ⟨w.heap.size + 1, 2, none⟩ (.slice pc lc Kc)) = w5 at S n1 d1 na nc HH hS ⊢
  clear hKK KK
  refine wpAnyH_done (by kernel_rfl) ?_ _
  clear hS HH; have c0_ := S.c3 0 rfl; have c1_ := S.c3 1 rfl; go_wp2_with fail; obtain ⟨d1_0, d1_1, d1_2⟩ := S.c3 1 rfl
  exact bodyPost_ret (v := .agg #[.bool (negB (-x.num)), .slice pa la Ka, .slice pc lc Kc]) (by simp [results, Tryz.f78, go_sem, d1_0, d1_1, d1_2]) rfl (⟨⟨_, rfl, _, pa, la, Ka, pc, lc, Kc, rfl, by rw [HQ.out.1]; rfl, by rw [HQ.out.1]; exact na, by rw [HQ.out.2]; exact nc⟩, S.below⟩)
set_option maxRecDepth 100000 in
set_option maxHeartbeats 4000000 in
theorem rsub_any {va vb : Value} {x y : Rat} {w : World} (ha : IsRat w va x) (hb : IsRat w vb y) {k1 k2 : Nat} (hx : RB x k1) (hy : RB y k2) (hk : k1 + k2 ≤ 511) (q : Rat) (hq : x - y = q) :
    Calls Tryz.prog 21 #[va, vb] w fun e w' => (∃ u, e = .returned (.tuple #[u, .int .i64 0]) ∧ IsRat w' u q) ∧ Below w.heap.size w w' := by
  obtain ⟨b1, p1, l1, K1, q1, j1, J1, rfl, hb1, n1, d1⟩ := ha
  obtain ⟨b2, p2, l2, K2, q2, j2, J2, rfl, hb2, n2, d2⟩ := hb
  have HB := Lib.hid (And.intro hx (And.intro hy hk))
  have HY := Lib.hid (rb_max hy (by omega))
  have HQ := Lib.hid (show x + -y = q by rw [← Rat.sub_eq_add_neg]; exact hq)
  clear hx hy hk hq
  have S := (((St.start w).alloc 34 [.bool b1, .slice p1 l1 K1, .slice q1 j1 J1] (w.heap.size)).alloc 34 [.bool b2, .slice p2 l2 K2, .slice q2 j2 J2] (w.heap.size + 1)).alloc 34 [.bool false, .slice none 0 0, .slice none 0 0] (w.heap.size + 1 + 1)
  try simp only [List.cons_append, List.nil_append] at S
  refine iv4 S.hold n1 d1 n2 d2 ?_; clear n1 d1 n2 d2; intro n1 d1 n2 d2
  have c0_ := S.c3 0 rfl; have c1_ := S.c3 1 rfl; have c2_ := S.c3 2 rfl
  go_enter Tryz.func21, Tryz.ntmps21
  go_upto_region 1 with fail
  clear c0_ c1_ c2_
  generalize (((w.alloc (.cells #[.bool b1, .slice p1 l1 K1, .slice q1 j1 J1] 34)).alloc (.cells #[.bool b2, .slice p2 l2 K2, .slice q2 j2 J2] 34)).alloc (.cells #[.bool false, .slice none 0 0, .slice none 0 0] 34)) = w1 at S n1 d1 n2 d2 ⊢
  have HH := Hold.drew w1
  refine iv4 HH n1 d1 n2 d2 ?_; clear n1 d1 n2 d2; intro n1 d1 n2 d2
  replace S := S.drew
  refine wp_region_held_drew (S := fun W => W.cell? ⟨w.heap.size, 0, none⟩ = some (.bool b1) ∧ W.cell? ⟨w.heap.size, 1, none⟩ = some (.slice p1 l1 K1) ∧ W.cell? ⟨w.heap.size, 2, none⟩ = some (.slice q1 j1 J1) ∧ W.cell? ⟨w.heap.size + 1, 0, none⟩ = some (.bool b2) ∧ W.cell? ⟨w.heap.size + 1, 1, none⟩ = some (.slice p2 l2 K2) ∧ W.cell? ⟨w.heap.size + 1, 2, none⟩ = some (.slice q2 j2 J2)) (by kernel_rfl) (con3 (S.c3 0 rfl) (S.c3 1 rfl)) (fun hS => ?_)
  generalize w1.drew = w2 at S n1 d1 n2 d2 HH hS ⊢
  refine tk 0 hS ?_
  refine tk 1 hS ?_
  refine rd 2 fun KK hKK => ?_
  go_simp; clear hS
  refine S.cl (rneg_any ⟨b2, p2, l2, K2, q2, j2, J2, rfl, hb2, n2, d2⟩ HY.out (-y) rfl) ?_; clear S; rintro e w3 ⟨_, rfl, ba, pa, la, Ka, qa, ja, Ja, rfl, ha, na, da⟩ S H
  refine iv5 H n1 d1 n2 d2 HH ?_; clear n1 d1 n2 d2 HH H; intro n1 d1 n2 d2 HH
  go_wp2_with fail
  refine ho hKK (con3 (S.c3 0 rfl) (S.c3 1 rfl)) fun hS => ?_
  clear hKK KK
  refine rd 3 fun KK hKK => ?_
  go_simp; clear hS
  refine S.cl (radd_any ⟨b1, p1, l1, K1, q1, j1, J1, rfl, hb1, n1, d1⟩ ⟨ba, pa, la, Ka, qa, ja, Ja, rfl, ha, na, da⟩ HB.out.1 (rb_neg HB.out.2.1) HB.out.2.2 q HQ.out) ?_; clear S; rintro e w4 ⟨_, rfl, b, p, l, K, q', j, J, rfl, hb, nn, dd⟩ S H
  refine iv7 H n1 d1 n2 d2 na da HH ?_; clear n1 d1 n2 d2 na da HH H; intro n1 d1 n2 d2 na da HH
  go_wp2_with fail
  refine ho hKK (con3 (S.c3 0 rfl) (S.c3 1 rfl)) fun hS => ?_
  clear hKK KK
  refine tk 4 hS ?_
  refine tk 5 hS ?_
  refine rd 6 fun KK hKK => ?_
  obtain ⟨c0, c1, c2⟩ := S.c3 2 rfl; obtain ⟨f0, f1, f2⟩ := S.f3 2 rfl
  go_simp; clear hS c0 f0 c1 f1 c2 f2
  have HP := S.putq 2 (.bool b) (.slice p l K) (.slice q' j J) rfl rfl; have H := HP.2; replace S := HP.1; clear HP
  refine iv8 H n1 d1 n2 d2 na da nn dd ?_; clear n1 d1 n2 d2 na da nn dd; intro n1 d1 n2 d2 na da nn dd; replace HH := HH.trans H; clear H
  refine ho hKK (con3 (S.c3 0 rfl) (S.c3 1 rfl)) fun hS => ?_
  generalize (((w4.setCell ⟨w.heap.size + 1 + 1, 0, none⟩ (.bool b)).setCell ⟨w.heap.size + 1 + 1, 1, none⟩ (.slice p l K)).setCell ⟨w.heap.size + 1 + 1, 2, none⟩ (.slice q' j J)) = w5 at S n1 d1 n2 d2 na da nn dd HH hS ⊢
  clear hKK KK
  refine rd 7 fun KK hKK => ?_
  go_simp
  refine ho hKK hS fun hS => ?_
  clear hKK KK
  refine wpAnyH_done (by kernel_rfl) ?_ _
  clear hS HH; have c0_ := S.c3 0 rfl; have c1_ := S.c3 1 rfl; have c2_ := S.c3 2 rfl; go_wp2_with fail; obtain ⟨d2_0, d2_1, d2_2⟩ := S.c3 2 rfl
  exact bodyPost_ret (v := .tuple #[.agg #[.bool b, .slice p l K, .slice q' j J], .int .i64 0]) (by simp [results, Tryz.f21, go_sem, d2_0, d2_1, d2_2]) rfl (⟨⟨_, rfl, b, p, l, K, q', j, J, rfl, hb, nn, dd⟩, S.below⟩)
section
variable {x1 x2 x3 x4 z y : Rat}
theorem in_add (D1 : DyX x1) (D2 : DyX x2) (D3 : DyX x3) (D4 : DyX x4) (h1 : x1 ≤ z) (h2 : z ≤ x2) (h3 : x3 ≤ y) (h4 : y ≤ x4) (n : Nat) : rq (x1 + x3) n false ≤ z + y ∧ z + y ≤ rq (x2 + x4) n true := by
  have a1 := rq_le (D1.add D3) n
  have a2 := rq_ge (D2.add D4) n
  constructor <;> grind
theorem in_sub (D1 : DyX x1) (D2 : DyX x2) (D3 : DyX x3) (D4 : DyX x4) (h1 : x1 ≤ z) (h2 : z ≤ x2) (h3 : x3 ≤ y) (h4 : y ≤ x4) (n : Nat) : rq (x1 + -x4) n false ≤ z - y ∧ z - y ≤ rq (x2 + -x3) n true := by
  have a1 := rq_le (D1.add D4.neg) n
  have a2 := rq_ge (D2.add D3.neg) n
  constructor <;> grind
theorem in_mul (D1 : DyX x1) (D2 : DyX x2) (D3 : DyX x3) (D4 : DyX x4) (h1 : x1 ≤ z) (h2 : z ≤ x2) (h3 : x3 ≤ y) (h4 : y ≤ x4) (n : Nat) : rq (loM x1 x2 x3 x4) n false ≤ z * y ∧ z * y ≤ rq (hiM x1 x2 x3 x4) n true := by
  have a1 := rq_le (loM_dyx D1 D2 D3 D4) n
  have a2 := rq_ge (hiM_dyx D1 D2 D3 D4) n
  have a3 := mul_between h1 h2 h3 h4
  exact ⟨Rat.le_trans a1 a3.1, Rat.le_trans a3.2 a2⟩
theorem in_rnd (D1 : DyX x1) (D2 : DyX x2) (h1 : x1 ≤ z) (h2 : z ≤ x2) (n : Nat) : rq x1 n false ≤ z ∧ z ≤ rq x2 n true := ⟨Rat.le_trans (rq_le D1 n) h1, Rat.le_trans h2 (rq_ge D2 n)⟩
theorem dyx_zero : DyX 0 := ⟨0, 0, .inl ⟨rfl, rfl⟩, dq_zero 0⟩
theorem sum3_dyx {a b c : Rat} (D1 : DyX a) (D2 : DyX b) (D3 : DyX c) (n : Nat) (up : Bool) : DyX (rq (rq (0 + a) n up + b) n up + c) := (rq_dyx ((rq_dyx (dyx_zero.add D1) n up).add D2) n up).add D3
theorem in_sum3 (D1 : DyX x1) (D2 : DyX x2) (D3 : DyX x3) (D4 : DyX x4) (h1 : x1 ≤ z) (h2 : z ≤ x2) (h3 : x3 ≤ y) (h4 : y ≤ x4) (n : Nat) : rq (rq (rq (0 + x1) n false + x3) n false + x1) n false ≤ z + y + z ∧ z + y + z ≤ rq (rq (rq (0 + x2) n true + x4) n true + x2) n true := by
  have a1 := rq_le (dyx_zero.add D1) n
  have a2 := rq_le ((rq_dyx (dyx_zero.add D1) n false).add D3) n
  have a3 := rq_le (sum3_dyx D1 D3 D1 n false) n
  have b1 := rq_ge (dyx_zero.add D2) n
  have b2 := rq_ge ((rq_dyx (dyx_zero.add D2) n true).add D4) n
  have b3 := rq_ge (sum3_dyx D2 D4 D2 n true) n
  constructor <;> grind
end
section
variable {w W : World} {L : List (Nat × TypeId × List Value)} {b : Nat} {t : TypeId} {b1 b2 b3 b4 b5 b6 : Bool} {p1 p2 p3 p4 p5 p6 : Option Addr} {l1 l2 l3 l4 l5 l6 K1 K2 K3 K4 K5 K6 : Nat} {e1 e2 e3 e4 e5 e6 : Int} {ds1 ds2 ds3 ds4 ds5 ds6 : List Nat}
theorem spraw2 (S : St w W L) (i : Nat) (hi : L[i]? = some (b, t, [.bool b1, .slice p1 l1 K1, .int .i64 e1, .bool b2, .slice p2 l2 K2, .int .i64 e2, .bool b3, .slice p3 l3 K3, .int .i64 e3, .bool b4, .slice p4 l4 K4, .int .i64 e4])) (h1 : ds1.length = l1) (h2 : ds2.length = l2) (h3 : ds3.length = l3) (h4 : ds4.length = l4)
    (a1 : At .u32 W p1 K1 ds1) (d1 : Dig 4294967296 ds1) (a2 : At .u32 W p2 K2 ds2) (d2 : Dig 4294967296 ds2) (a3 : At .u32 W p3 K3 ds3) (d3 : Dig 4294967296 ds3) (a4 : At .u32 W p4 K4 ds4) (d4 : Dig 4294967296 ds4) :
    ∀ j, j < 2 → SpAt W b j ([SpR.mk b1 b2 p1 p2 ds1 ds2 K1 K2 e1 e2, SpR.mk b3 b4 p3 p4 ds3 ds4 K3 K4 e3 e4].getD j (SpR.mk b1 b2 p1 p2 ds1 ds2 K1 K2 e1 e2)) := by
  subst h1 h2 h3 h4
  intro j hj
  match j, hj with
  | 0, _ => exact ⟨⟨S.c i 0 hi rfl, S.c i 1 hi rfl, S.c i 2 hi rfl, S.c i 3 hi rfl, S.c i 4 hi rfl, S.c i 5 hi rfl⟩, a1, d1, a2, d2⟩
  | 1, _ => exact ⟨⟨S.c i 6 hi rfl, S.c i 7 hi rfl, S.c i 8 hi rfl, S.c i 9 hi rfl, S.c i 10 hi rfl, S.c i 11 hi rfl⟩, a3, d3, a4, d4⟩
end
def sumR (Z : Nat → Rat) : Nat → Rat
  | 0 => 0
  | k + 1 => sumR Z k + Z k
theorem rb_zero : RB 0 1 := ⟨by show Int.natAbs 0 < _; exact NB_pos 1, by show 1 < NB 1; rw [NB_one]; decide⟩
theorem rb_sum {Z : Nat → Rat} {n c : Nat} (h : ∀ j, j < n → RB (Z j) c) : ∀ j, j ≤ n → RB (sumR Z j) ((c + 1) * j + 1)
  | 0, _ => rb_zero
  | j + 1, hj => by
    have h1 := rb_add (rb_sum h j (by omega)) (h j (by omega))
    exact h1.mono (by rw [Nat.mul_add]; omega)
def RatsAt (w : World) (g n : Nat) (B : Nat → Bool) (P P' : Nat → Option Addr) (l l' K K' : Nat → Nat) (Z : Nat → Rat) : Prop :=
  g < w.heap.size ∧ ∀ j, j < n → w.cell? ⟨g, j * 3, none⟩ = some (.bool (B j)) ∧ w.cell? ⟨g, j * 3 + 1, none⟩ = some (.slice (P j) (l j) (K j)) ∧ w.cell? ⟨g, j * 3 + 2, none⟩ = some (.slice (P' j) (l' j) (K' j)) ∧ negB (Z j).num = B j ∧ IsNat w (.slice (P j) (l j) (K j)) (Z j).num.natAbs ∧ IsNat w (.slice (P' j) (l' j) (K' j)) (Z j).den
set_option maxRecDepth 100000 in
set_option maxHeartbeats 2000000 in
theorem rsum_any (g n : Nat) (B : Nat → Bool) (P P' : Nat → Option Addr) (l l' K K' : Nat → Nat) (Z : Nat → Rat) (w : World) (h : RatsAt w g n B P P' l l' K K' Z) (c : Nat) (hZ : ∀ j, j < n → RB (Z j) c) (hn : n ≤ 100) (hc : (c + 1) * n + 1 + c ≤ 511) :
    Calls Tryz.prog 23 #[.slice (some ⟨g, 0, none⟩) n n] w fun e w' => (∃ u, e = .returned (.tuple #[u, .int .i64 0]) ∧ IsRat w' u (sumR Z n)) ∧ Below w.heap.size w w' := by
  have HZ := Lib.hid (And.intro hZ (And.intro (rb_sum hZ) hc))
  have HI := Lib.hid h
  clear hZ hc h
  have S := (St.start w).alloc 34 [.bool false, .slice none 0 0, .slice none 0 0] (w.heap.size)
  try simp only [List.nil_append] at S
  have c0_ := S.c3 0 rfl
  go_enter Tryz.func23, Tryz.ntmps23
  go_wp2_with fail; clear c0_
  refine S.cl (rzero_any _) ?_; clear S; rintro e w1 ⟨_, rfl, bz, pz, lz, Kz, qz, jz, Jz, rfl, hbz, nz, dz⟩ S H
  clear H; have c0_ := S.c3 0 rfl
  have H := S.hnew 34 [.bool bz, .slice pz lz Kz, .slice qz jz Jz]
  replace S := S.al 34 [.bool bz, .slice pz lz Kz, .slice qz jz Jz] (w1.heap.size)
  replace nz := nz.hold H; replace dz := dz.hold H
  clear H; go_wp2_with fail; clear c0_
  go_loopw [11] (fun si wr => ∃ k : Nat, k ≤ n ∧ si = .int .i64 k ∧ ∃ b p l1 K1 q j J, Hid (negB (sumR Z k).num = b) ∧ IsNat wr (.slice p l1 K1) (sumR Z k).num.natAbs ∧ IsNat wr (.slice q j J) (sumR Z k).den ∧ St w wr [(w.heap.size, 34, [.bool false, .slice none 0 0, .slice none 0 0]), (w1.heap.size, 34, [.bool b, .slice p l1 K1, .slice q j J])]) (fun si _ => n - (intOf si).toNat)
  case atStart => exact ⟨0, by omega, rfl, _, _, _, _, _, _, _, hbz, nz, dz, S⟩
  case round =>
    clear nz dz S
    obtain ⟨k, hk, rfl, b, p, l1, K1, q, j, J, hb, nn, dd, S⟩ := hrel
    by_cases hlt : k < n
    · have hI := HI.out.2 k hlt
      have hgb := HI.out.1
      have a0 := (S.below.cell (p := ⟨g, k * 3, none⟩) hgb).trans hI.1
      have a1 := (S.below.cell (p := ⟨g, k * 3 + 1, none⟩) hgb).trans hI.2.1
      have a2 := (S.below.cell (p := ⟨g, k * 3 + 2, none⟩) hgb).trans hI.2.2.1
      have na := hI.2.2.2.2.1.below S.below (Nat.le_refl _)
      have da := hI.2.2.2.2.2.below S.below (Nat.le_refl _)
      have HBk := Lib.hid hI.2.2.2.1
      have HL := Lib.hid hlt
      have hki : (k : Int) < ((n : Nat) : Int) := by omega
      clear hI hgb hlt
      have H := S.hnew 34 [.bool (B k), .slice (P k) (l k) (K k), .slice (P' k) (l' k) (K' k)]
      replace S := S.al 34 [.bool (B k), .slice (P k) (l k) (K k), .slice (P' k) (l' k) (K' k)] (wr.heap.size)
      refine iv4 H nn dd na da ?_; clear nn dd na da; intro nn dd na da
      clear H; have c0_ := S.c3 0 rfl; have c1_ := S.c3 1 rfl; have c2_ := S.c3 2 rfl; go_wp2_with fail; clear c0_ c1_ c2_
      refine S.cl (radd_any ⟨b, p, l1, K1, q, j, J, rfl, hb, nn, dd⟩ ⟨B k, P k, l k, K k, P' k, l' k, K' k, rfl, HBk.out, na, da⟩ (HZ.out.2.1 k hk) (HZ.out.1 k HL.out) (by have := HZ.out.2.2; have := Nat.mul_le_mul_left (c + 1) hk; omega) (sumR Z (k + 1)) rfl) ?_; clear S; rintro e w21 ⟨_, rfl, b2, p2, l2, K2, q2, j2, J2, rfl, hb2, n2, d2⟩ S H
      refine iv4 H nn dd na da ?_; clear nn dd na da; intro nn dd na da
      clear H; have c0_ := S.c3 0 rfl; have c1_ := S.c3 1 rfl; have c2_ := S.c3 2 rfl
      obtain ⟨f1_0, f1_1, f1_2⟩ := S.f3 1 rfl
      have HP := S.putq 1 (.bool b2) (.slice p2 l2 K2) (.slice q2 j2 J2) rfl rfl; have H := HP.2; replace S := HP.1; clear HP
      refine iv6 H nn dd na da n2 d2 ?_; clear nn dd na da n2 d2; intro nn dd na da n2 d2
      clear H; go_wp2_with fail
      replace S := S.take 2 (L := [(w.heap.size, 34, [.bool false, .slice none 0 0, .slice none 0 0]), (w1.heap.size, 34, [.bool b2, .slice p2 l2 K2, .slice q2 j2 J2])]) rfl
      go_roundw
      case rel => exact ⟨k + 1, HL.out, by go_num, _, _, _, _, _, _, _, hb2, n2, d2, S⟩
      case measure => have := HL.out; simp [intOf]; omega
    · have hki : ¬ (k : Int) < ((n : Nat) : Int) := by omega
      have HK := Lib.hid (show k = n by omega)
      clear hlt; have c0_ := S.c3 0 rfl; have c1_ := S.c3 1 rfl
      obtain ⟨f0_0, f0_1, f0_2⟩ := S.f3 0 rfl
      have HP := S.putq 0 (.bool b) (.slice p l1 K1) (.slice q j J) rfl rfl; have H := HP.2; replace S := HP.1; clear HP
      replace nn := nn.hold H; replace dd := dd.hold H
      clear H; go_wp2_with fail; obtain ⟨d0_0, d0_1, d0_2⟩ := S.c3 0 rfl
      exact bodyPost_ret (v := .tuple #[.agg #[.bool b, .slice p l1 K1, .slice q j J], .int .i64 0]) (by simp [results, Tryz.f23, go_sem, d0_0, d0_1, d0_2]) rfl (⟨⟨_, rfl, by rw [← HK.out]; exact ⟨b, p, l1, K1, q, j, J, rfl, hb, nn, dd⟩⟩, S.below⟩)
section
variable {w W : World} {L : List (Nat × TypeId × List Value)} {b : Nat} {t : TypeId} {b0 b1 b2 : Bool} {p0 p1 p2 q0 q1 q2 : Option Addr} {l0 l1 l2 m0 m1 m2 K0 K1 K2 J0 J1 J2 : Nat} {z0 z1 z2 : Rat}
theorem rats3u (S : Su w W L) (i : Nat) (hi : L[i]? = some (b, t, [.bool b0, .slice p0 l0 K0, .slice q0 m0 J0, .bool b1, .slice p1 l1 K1, .slice q1 m1 J1, .bool b2, .slice p2 l2 K2, .slice q2 m2 J2]))
    (h0 : Hid (negB z0.num = b0)) (h1 : Hid (negB z1.num = b1)) (h2 : Hid (negB z2.num = b2))
    (n0 : IsNat W (.slice p0 l0 K0) z0.num.natAbs) (d0 : IsNat W (.slice q0 m0 J0) z0.den) (n1 : IsNat W (.slice p1 l1 K1) z1.num.natAbs) (d1 : IsNat W (.slice q1 m1 J1) z1.den) (n2 : IsNat W (.slice p2 l2 K2) z2.num.natAbs) (d2 : IsNat W (.slice q2 m2 J2) z2.den) :
    RatsAt W b 3 (fun j => [b0, b1, b2].getD j false) (fun j => [p0, p1, p2].getD j none) (fun j => [q0, q1, q2].getD j none) (fun j => [l0, l1, l2].getD j 0) (fun j => [m0, m1, m2].getD j 0) (fun j => [K0, K1, K2].getD j 0) (fun j => [J0, J1, J2].getD j 0) (fun j => [z0, z1, z2].getD j 0) := by
  refine ⟨S.lt i hi, fun j hj => ?_⟩
  match j, hj with
  | 0, _ => exact ⟨S.c i 0 hi rfl, S.c i 1 hi rfl, S.c i 2 hi rfl, h0.out, n0, d0⟩
  | 1, _ => exact ⟨S.c i 3 hi rfl, S.c i 4 hi rfl, S.c i 5 hi rfl, h1.out, n1, d1⟩
  | 2, _ => exact ⟨S.c i 6 hi rfl, S.c i 7 hi rfl, S.c i 8 hi rfl, h2.out, n2, d2⟩
end
theorem rsum3 {g : Nat} {B : Nat → Bool} {P P' : Nat → Option Addr} {l l' K K' : Nat → Nat} {w : World} {z0 z1 z2 : Rat} (h : RatsAt w g 3 B P P' l l' K K' (fun j => [z0, z1, z2].getD j 0)) (c : Nat) (h0 : RB z0 c) (h1 : RB z1 c) (h2 : RB z2 c) (hc : 4 * c ≤ 507) (z : Rat) (hz : z0 + z1 + z2 = z) :
    Calls Tryz.prog 23 #[.slice (some ⟨g, 0, none⟩) 3 3] w fun e w' => (∃ u, e = .returned (.tuple #[u, .int .i64 0]) ∧ IsRat w' u z) ∧ Below w.heap.size w w' := by
  have e : sumR (fun j => [z0, z1, z2].getD j 0) 3 = z := by subst hz; show 0 + z0 + z1 + z2 = _; rw [Rat.zero_add]
  have := rsum_any g 3 B P P' l l' K K' _ w h c (fun j hj => by
    match j, hj with
    | 0, _ => exact h0
    | 1, _ => exact h1
    | 2, _ => exact h2) (by decide) (by omega)
  rwa [e] at this
theorem spans3u {w W : World} {L : List (Nat × TypeId × List Value)} (S : Su w W L) (i : Nat) {g : Nat} {t : TypeId} {B H : Nat} {x0 y0 x1 y1 x2 y2 : Rat} {b0 c0 b1 c1 b2 c2 : Bool} {p0 q0 p1 q1 p2 q2 : Option Addr} {l0 K0 k0 J0 l1 K1 k1 J1 l2 K2 k2 J2 : Nat} {e0 f0 e1 f1 e2 f2 m0 n0 m1 n1 m2 n2 : Int}
    (hi : L[i]? = some (g, t, [.bool b0, .slice p0 l0 K0, .int .i64 e0, .bool c0, .slice q0 k0 J0, .int .i64 f0, .bool b1, .slice p1 l1 K1, .int .i64 e1, .bool c1, .slice q1 k1 J1, .int .i64 f1, .bool b2, .slice p2 l2 K2, .int .i64 e2, .bool c2, .slice q2 k2 J2, .int .i64 f2]))
    (h0 : Hid (negB m0 = b0) ∧ IsNat W (.slice p0 l0 K0) m0.natAbs ∧ Hid (DyF m0 e0 x0 B H) ∧ Hid (negB n0 = c0) ∧ IsNat W (.slice q0 k0 J0) n0.natAbs ∧ Hid (DyF n0 f0 y0 B H))
    (h1 : Hid (negB m1 = b1) ∧ IsNat W (.slice p1 l1 K1) m1.natAbs ∧ Hid (DyF m1 e1 x1 B H) ∧ Hid (negB n1 = c1) ∧ IsNat W (.slice q1 k1 J1) n1.natAbs ∧ Hid (DyF n1 f1 y1 B H))
    (h2 : Hid (negB m2 = b2) ∧ IsNat W (.slice p2 l2 K2) m2.natAbs ∧ Hid (DyF m2 e2 x2 B H) ∧ Hid (negB n2 = c2) ∧ IsNat W (.slice q2 k2 J2) n2.natAbs ∧ Hid (DyF n2 f2 y2 B H)) :
    SpansAt W g 3 (fun j => [SpC.mk b0 c0 p0 q0 l0 K0 k0 J0 m0 e0 n0 f0, SpC.mk b1 c1 p1 q1 l1 K1 k1 J1 m1 e1 n1 f1, SpC.mk b2 c2 p2 q2 l2 K2 k2 J2 m2 e2 n2 f2].getD j (SpC.mk b0 c0 p0 q0 l0 K0 k0 J0 m0 e0 n0 f0)) (fun j => [x0, x1, x2].getD j 0) (fun j => [y0, y1, y2].getD j 0) B H := by
  refine ⟨S.lt i hi, fun j hj => ?_⟩
  match j, hj with
  | 0, _ => exact ⟨S.c i 0 hi rfl, S.c i 1 hi rfl, S.c i 2 hi rfl, S.c i 3 hi rfl, S.c i 4 hi rfl, S.c i 5 hi rfl, h0.1.out, h0.2.1, h0.2.2.1.out, h0.2.2.2.1.out, h0.2.2.2.2.1, h0.2.2.2.2.2.out⟩
  | 1, _ => exact ⟨S.c i 6 hi rfl, S.c i 7 hi rfl, S.c i 8 hi rfl, S.c i 9 hi rfl, S.c i 10 hi rfl, S.c i 11 hi rfl, h1.1.out, h1.2.1, h1.2.2.1.out, h1.2.2.2.1.out, h1.2.2.2.2.1, h1.2.2.2.2.2.out⟩
  | 2, _ => exact ⟨S.c i 12 hi rfl, S.c i 13 hi rfl, S.c i 14 hi rfl, S.c i 15 hi rfl, S.c i 16 hi rfl, S.c i 17 hi rfl, h2.1.out, h2.2.1, h2.2.2.1.out, h2.2.2.2.1.out, h2.2.2.2.2.1, h2.2.2.2.2.2.out⟩
end Go.Proofs.YtcdmojefheipoaaGreatDoor
