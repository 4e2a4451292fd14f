/-
  dyad.Near. girdlelaw05.fit, few; what may be tried, as a number. dyad.Make and Check of numbers of any power; girdlelaw05.few. What rounding does, as plain numbers.
-/
import Derived.Test.YtnkmcikjeicpfaaDoorM20

namespace Go.Proofs.YtnkmcikjeicpfaaDoor
open Go.RowKit

set_option maxRecDepth 100000 in
set_option maxHeartbeats 4000000 in
theorem dnear_zero {va : Value} {w : World} (ha : IsRat w va 0) (n : Nat) (h2 : 2 ≤ n) (h4 : n ≤ 4096) (up : Bool) :
    Calls Tryd.prog 18 #[va, .int .i64 n, .bool up] w fun ev w' => ev = .returned (.tuple #[.agg #[.bool false, .slice none 0 0, .int .i64 0], .int .i64 0]) ∧ Below w.heap.size w w' := by
  obtain ⟨b, p, l, K, q, j, J, rfl, hb, nn, dd⟩ := ha
  have HN := Lib.hid (And.intro (show (2 : Int) ≤ (n : Int) by omega) (show (n : Int) ≤ 4096 by omega))
  clear h2 h4
  have S := ((St.start w).alloc 45 [.bool b, .slice p l K, .slice q j J] (w.heap.size)).alloc 27 [.bool false, .slice none 0 0, .int .i64 0] (w.heap.size + 1)
  simp only [List.cons_append, List.nil_append] at S
  replace nn := nn.hold S.hold
  replace dd := dd.hold S.hold
  have c0_0 := S.c 0 0 rfl rfl
  have c0_1 := S.c 0 1 rfl rfl
  have c0_2 := S.c 0 2 rfl rfl
  have c1_0 := S.c 1 0 rfl rfl
  have c1_1 := S.c 1 1 rfl rfl
  have c1_2 := S.c 1 2 rfl rfl
  go_enter Tryd.func18, Tryd.ntmps18
  go_wp2_with fail
  clear c0_0 c0_1 c0_2 c1_0 c1_1 c1_2
  refine (S.call (bits_in n _ HN.out.1 HN.out.2)).mono ?_
  clear S
  rintro e w1 ⟨rfl, S, H⟩
  replace nn := nn.hold H
  replace dd := dd.hold H
  clear H
  have c0_0 := S.c 0 0 rfl rfl
  have c0_1 := S.c 0 1 rfl rfl
  have c0_2 := S.c 0 2 rfl rfl
  have c1_0 := S.c 1 0 rfl rfl
  have c1_1 := S.c 1 1 rfl rfl
  have c1_2 := S.c 1 2 rfl rfl
  go_wp2_with fail
  clear c0_0 c0_1 c0_2 c1_0 c1_1 c1_2
  refine (S.call (rsign_any (s := 0) ⟨b, p, l, K, q, j, J, rfl, hb, nn, dd⟩ (lt_maxN (by decide)) rfl)).mono ?_
  clear S
  rintro e w2 ⟨rfl, S, H⟩
  replace nn := nn.hold H
  replace dd := dd.hold H
  clear H
  have c0_0 := S.c 0 0 rfl rfl
  have c0_1 := S.c 0 1 rfl rfl
  have c0_2 := S.c 0 2 rfl rfl
  have c1_0 := S.c 1 0 rfl rfl
  have c1_1 := S.c 1 1 rfl rfl
  have c1_2 := S.c 1 2 rfl rfl
  have f1_0 := S.f 1 0 rfl
  have H := S.hset 1 0 (.bool false) rfl rfl (by intro q n e; cases e)
  replace S := S.set 1 0 (.bool false) rfl
  replace nn := nn.hold H
  replace dd := dd.hold H
  clear H
  have f1_1 := S.f 1 1 rfl
  have H := S.hset 1 1 (.slice none 0 0) rfl rfl (by intro q n e; cases e)
  replace S := S.set 1 1 (.slice none 0 0) rfl
  replace nn := nn.hold H
  replace dd := dd.hold H
  clear H
  have f1_2 := S.f 1 2 rfl
  have H := S.hset32 1 2 (.int .i64 0) rfl rfl (by intro n e; cases e)
  replace S := S.set 1 2 (.int .i64 0) rfl
  replace nn := nn.hold32 H
  replace dd := dd.hold32 H
  clear H
  go_wp2_with fail
  have d1_0 := S.c 1 0 rfl rfl
  have d1_1 := S.c 1 1 rfl rfl
  have d1_2 := S.c 1 2 rfl rfl
  exact bodyPost_ret (v := .tuple #[.agg #[.bool false, .slice none 0 0, .int .i64 0], .int .i64 0]) (by simp [results, Tryd.f18, go_sem, d1_0, d1_1, d1_2]) rfl (⟨rfl, S.below⟩)

set_option maxRecDepth 100000 in
set_option maxHeartbeats 4000000 in
theorem dnear_bad {va : Value} {a : Rat} {w : World} (ha : IsRat w va a) (n : Int) (hn : n < 2 ∨ 4096 < n) (up : Bool) :
    Calls Tryd.prog 18 #[va, .int .i64 n, .bool up] w fun ev w' => ev = .returned (.tuple #[.agg #[.bool false, .slice none 0 0, .int .i64 0], .int .i64 1]) ∧ Below w.heap.size w w' := by
  obtain ⟨b, p, l, K, q, j, J, rfl, hb, nn, dd⟩ := ha
  have HN := Lib.hid hn
  clear hn
  have S := ((St.start w).alloc 45 [.bool b, .slice p l K, .slice q j J] (w.heap.size)).alloc 27 [.bool false, .slice none 0 0, .int .i64 0] (w.heap.size + 1)
  simp only [List.cons_append, List.nil_append] at S
  replace nn := nn.hold S.hold
  replace dd := dd.hold S.hold
  have c0_0 := S.c 0 0 rfl rfl
  have c0_1 := S.c 0 1 rfl rfl
  have c0_2 := S.c 0 2 rfl rfl
  have c1_0 := S.c 1 0 rfl rfl
  have c1_1 := S.c 1 1 rfl rfl
  have c1_2 := S.c 1 2 rfl rfl
  go_enter Tryd.func18, Tryd.ntmps18
  go_wp2_with fail
  clear c0_0 c0_1 c0_2 c1_0 c1_1 c1_2
  refine (S.call (bits_out n _ HN.out)).mono ?_
  clear S
  rintro e w1 ⟨rfl, S, H⟩
  replace nn := nn.hold H
  replace dd := dd.hold H
  clear H
  have c0_0 := S.c 0 0 rfl rfl
  have c0_1 := S.c 0 1 rfl rfl
  have c0_2 := S.c 0 2 rfl rfl
  have c1_0 := S.c 1 0 rfl rfl
  have c1_1 := S.c 1 1 rfl rfl
  have c1_2 := S.c 1 2 rfl rfl
  have f1_0 := S.f 1 0 rfl
  have H := S.hset 1 0 (.bool false) rfl rfl (by intro q n e; cases e)
  replace S := S.set 1 0 (.bool false) rfl
  replace nn := nn.hold H
  replace dd := dd.hold H
  clear H
  have f1_1 := S.f 1 1 rfl
  have H := S.hset 1 1 (.slice none 0 0) rfl rfl (by intro q n e; cases e)
  replace S := S.set 1 1 (.slice none 0 0) rfl
  replace nn := nn.hold H
  replace dd := dd.hold H
  clear H
  have f1_2 := S.f 1 2 rfl
  have H := S.hset32 1 2 (.int .i64 0) rfl rfl (by intro n e; cases e)
  replace S := S.set 1 2 (.int .i64 0) rfl
  replace nn := nn.hold32 H
  replace dd := dd.hold32 H
  clear H
  go_wp2_with fail
  have d1_0 := S.c 1 0 rfl rfl
  have d1_1 := S.c 1 1 rfl rfl
  have d1_2 := S.c 1 2 rfl rfl
  exact bodyPost_ret (v := .tuple #[.agg #[.bool false, .slice none 0 0, .int .i64 0], .int .i64 1]) (by simp [results, Tryd.f18, go_sem, d1_0, d1_1, d1_2]) rfl (⟨rfl, S.below⟩)

set_option maxRecDepth 100000 in
set_option maxHeartbeats 8000000 in
/-- A ratio between two numbers of n bits. -/
theorem dnear_any {va : Value} {a : Rat} {w : World} (hT : Tab w) (ha : IsRat w va a) {k : Nat} (hak : RB a k) (n : Nat) (h2 : 2 ≤ n) (h4 : n ≤ 4096) (up : Bool) (h0 : a ≠ 0) (t : Nat) (ht : TailIs a.den t) (d : Nat) (hd : a.den / 2 ^ t = d) (hk : 96 * k + n + 4 ≤ 16384) (y : Rat) (hy : nearV a.num d t n up = y) :
    Calls Tryd.prog 18 #[va, .int .i64 n, .bool up] w fun ev w' => (∃ u, ev = .returned (.tuple #[u, .int .i64 0]) ∧ IsD w' u y (n + 64 * k) (32 * k + 3)) ∧ Below w.heap.size w w' := by
  obtain ⟨b, p, l, K, q, j, J, rfl, hb, nn, dd⟩ := ha
  have hmax : a.num.natAbs < maxN ∧ a.den < maxN := rb_max hak (by omega)
  have hn0 : a.num ≠ 0 := num_ne h0
  obtain ⟨s, hs⟩ : ∃ s, a.num.sign = s := ⟨_, rfl⟩
  have hs1 : (s == 0) = false := by rw [← hs]; simpa using fun h => hn0 (Int.sign_eq_zero_iff_zero.1 h)
  have hden0 := a.den_nz
  have htl := tail_le ht hden0 (nb_pb hak.2 (Nat.le_refl _))
  obtain ⟨dm, hdm⟩ : ∃ m : Nat, d = 2 * m + 1 ∧ a.den = 2 ^ t * d := by
    rcases ht with ⟨h, _⟩ | ⟨m, hm⟩
    · exact absurd h hden0
    · refine ⟨m, ?_, ?_⟩
      · rw [← hd, hm, Nat.mul_div_cancel_left _ (Nat.two_pow_pos t)]
      · rw [← hd, hm, Nat.mul_div_cancel_left _ (Nat.two_pow_pos t)]
  have hd0 : d ≠ 0 := by omega
  have hdle : d ≤ a.den := by rw [hdm.2]; exact Nat.le_mul_of_pos_left _ (Nat.two_pow_pos t)
  have hdI : (a.den : Int) / 2 ^ t = (d : Int) := by
    rw [← hd]; simp
  obtain ⟨P, hP⟩ : ∃ P, nbits a.num.natAbs = P := ⟨_, rfl⟩
  obtain ⟨Q, hQ⟩ : ∃ Q, nbits d = Q := ⟨_, rfl⟩
  have hPl : P ≤ 32 * k := by rw [← hP]; exact nbits_pb (by omega) (nb_pb hak.1 (Nat.le_refl _))
  have hQl : Q ≤ 32 * k := by rw [← hQ]; exact nbits_pb hd0 (nb_pb (Nat.lt_of_le_of_lt hdle hak.2) (Nat.le_refl _))
  obtain ⟨_, _, hP3⟩ := nbits_spec (n := a.num.natAbs) (by omega)
  obtain ⟨hQ1, hQ2, _⟩ := nbits_spec hd0
  rw [hP] at hP3
  rw [hQ] at hQ1 hQ2
  have hw1 : IntKind.i64.wrap ((n : Int) + (Q : Int)) = (n : Int) + (Q : Int) := wrap_int (by omega) (by omega)
  unfold nearV at hy
  rw [hP, hQ] at hy
  have HN := Lib.hid (And.intro (show (2 : Int) ≤ (n : Int) by omega) (show (n : Int) ≤ 4096 by omega))
  have HD := Lib.hid (And.intro hT (And.intro hmax (And.intro hs (And.intro hdI (And.intro hP (And.intro hQ (And.intro hden0 (And.intro ht (show t ≤ 9223372036854775807 by omega)))))))))
  have HM := Lib.hid (show d < maxN by omega)
  by_cases hsh : P ≤ n + Q
  · obtain ⟨g, hg⟩ : ∃ g : Nat, (n : Int) + (Q : Int) - (P : Int) = (g : Int) := ⟨n + Q - P, by omega⟩
    rw [hg, show ((g : Int)).toNat = g from rfl, show (-(g : Int)).toNat = 0 by omega, Nat.pow_zero] at hy
    have hN : a.num * 2 ^ g = a.num * ((2 ^ g : Nat) : Int) := by simp
    obtain ⟨N, hNN⟩ : ∃ N, a.num * ((2 ^ g : Nat) : Int) = N := ⟨_, rfl⟩
    rw [hNN] at hy hN
    rw [show (d : Int) * ((1 : Nat) : Int) = (d : Int) by simp] at hy
    have hNa : N.natAbs = a.num.natAbs * 2 ^ g := by rw [← hNN, Int.natAbs_mul, Int.natAbs_natCast]
    have hNb : N.natAbs < d * 2 ^ (n + 1) := by
      rw [hNa]
      calc a.num.natAbs * 2 ^ g < 2 ^ P * 2 ^ g := Nat.mul_lt_mul_of_pos_right hP3 (Nat.two_pow_pos g)
        _ = 2 ^ (Q - 1) * 2 ^ (n + 1) := by rw [← Nat.pow_add, ← Nat.pow_add]; congr 1; omega
        _ ≤ d * 2 ^ (n + 1) := Nat.mul_le_mul_right _ hQ2
    obtain ⟨z, hz⟩ : ∃ z, divI N (d : Int) up = z := ⟨_, rfl⟩
    have hzb : z.natAbs < PB (n + 2) := by
      have h1 : z.natAbs ≤ 2 ^ (n + 1) := by rw [← hz]; exact divI_bits (by omega) up hNb
      rw [PB_is]; exact Nat.lt_of_le_of_lt h1 (Nat.pow_lt_pow_right (by decide) (by omega))
    have hNm : N.natAbs < maxN := by
      refine pb_max (n := P + g) ?_ (by omega)
      rw [hNa, PB_is, Nat.pow_add]
      exact Nat.mul_lt_mul_of_pos_right hP3 (Nat.two_pow_pos g)
    obtain ⟨f, hf⟩ : ∃ f : Int, -(g : Int) - (t : Int) = f := ⟨_, rfl⟩
    have hw2 : IntKind.i64.wrap ((n : Int) + (Q : Int) - (P : Int)) = (g : Int) := by rw [wrap_int (by omega) (by omega), hg]
    have hw3 : IntKind.i64.wrap (-(g : Int)) = -(g : Int) := wrap_int (by omega) (by omega)
    have hw4 : IntKind.i64.wrap (-(g : Int) - (t : Int)) = f := by rw [wrap_int (by omega) (by omega), hf]
    have hzf : ZF z f (n + 64 * k) (32 * k + 2) := ZF.of (n := n + 2) hzb (by omega) (by omega)
    rw [hz, hf] at hy
    have HG := Lib.hid (And.intro (show g ≤ 100000 by omega) (And.intro hN (And.intro (show a.num.natAbs * 2 ^ g < maxN by rw [← hNa]; exact hNm) (And.intro hNm (And.intro hz (And.intro (show (0 : Int) < (d : Int) by omega) (pb_max hzb (by omega))))))))
    have HY := Lib.hid (And.intro hzf (And.intro hy (And.intro (show 32 * k + 2 + 1 + (n + 64 * k) ≤ 16384 by omega) (And.intro h2 h4))))
    clear hN hNN hNa hNb hNm hz hzb hzf hy hf hg hT hak h2 h4 h0 ht hd hk hmax hn0 hs hden0 htl hdm hd0 hdle hdI hP hQ hPl hQl hP3 hQ1 hQ2 hsh
    have S := ((St.start w).alloc 45 [.bool b, .slice p l K, .slice q j J] (w.heap.size)).alloc 27 [.bool false, .slice none 0 0, .int .i64 0] (w.heap.size + 1)
    simp only [List.cons_append, List.nil_append] at S
    replace nn := nn.hold S.hold
    replace dd := dd.hold S.hold
    have c0_0 := S.c 0 0 rfl rfl
    have c0_1 := S.c 0 1 rfl rfl
    have c0_2 := S.c 0 2 rfl rfl
    have c1_0 := S.c 1 0 rfl rfl
    have c1_1 := S.c 1 1 rfl rfl
    have c1_2 := S.c 1 2 rfl rfl
    go_enter Tryd.func18, Tryd.ntmps18
    go_wp2_with fail
    clear c0_0 c0_1 c0_2 c1_0 c1_1 c1_2
    refine (S.call (bits_in n _ HN.out.1 HN.out.2)).mono ?_
    clear S
    rintro e w1 ⟨rfl, S, H⟩
    replace nn := nn.hold H
    replace dd := dd.hold H
    clear H
    have c0_0 := S.c 0 0 rfl rfl
    have c0_1 := S.c 0 1 rfl rfl
    have c0_2 := S.c 0 2 rfl rfl
    have c1_0 := S.c 1 0 rfl rfl
    have c1_1 := S.c 1 1 rfl rfl
    have c1_2 := S.c 1 2 rfl rfl
    go_wp2_with fail
    clear c0_0 c0_1 c0_2 c1_0 c1_1 c1_2
    refine (S.call (rsign_any ⟨b, p, l, K, q, j, J, rfl, hb, nn, dd⟩ HD.out.2.1.1 HD.out.2.2.1)).mono ?_
    clear S
    rintro e w2 ⟨rfl, S, H⟩
    replace nn := nn.hold H
    replace dd := dd.hold H
    clear H
    have c0_0 := S.c 0 0 rfl rfl
    have c0_1 := S.c 0 1 rfl rfl
    have c0_2 := S.c 0 2 rfl rfl
    have c1_0 := S.c 1 0 rfl rfl
    have c1_1 := S.c 1 1 rfl rfl
    have c1_2 := S.c 1 2 rfl rfl
    go_wp2_with fail
    clear c0_0 c0_1 c0_2 c1_0 c1_1 c1_2
    refine (S.call (tail_nat' dd HD.out.2.1.2 (HD.out.1.below S.below))).mono ?_
    clear S
    rintro e w3 ⟨⟨t', rfl, ht'⟩, S, H⟩
    replace nn := nn.hold H
    replace dd := dd.hold H
    clear H
    have c0_0 := S.c 0 0 rfl rfl
    have c0_1 := S.c 0 1 rfl rfl
    have c0_2 := S.c 0 2 rfl rfl
    have c1_0 := S.c 1 0 rfl rfl
    have c1_1 := S.c 1 1 rfl rfl
    have c1_2 := S.c 1 2 rfl rfl
    obtain rfl : t' = t := tail_uniq HD.out.2.2.2.2.2.2.1 ht'.out HD.out.2.2.2.2.2.2.2.1
    clear ht'
    go_wp2_with fail
    clear c0_0 c0_1 c0_2 c1_0 c1_1 c1_2
    refine (S.call (wnat_any dd HD.out.2.1.2 (a.den : Int) rfl)).mono ?_
    clear S
    rintro e w4 ⟨⟨_, rfl, pe, le, Ke, rfl, ne⟩, S, H⟩
    replace nn := nn.hold H
    replace dd := dd.hold H
    clear H
    have c0_0 := S.c 0 0 rfl rfl
    have c0_1 := S.c 0 1 rfl rfl
    have c0_2 := S.c 0 2 rfl rfl
    have c1_0 := S.c 1 0 rfl rfl
    have c1_1 := S.c 1 1 rfl rfl
    have c1_2 := S.c 1 2 rfl rfl
    go_wp2_with fail
    clear c0_0 c0_1 c0_2 c1_0 c1_1 c1_2
    refine (S.call (wright_any (HD.out.1.below S.below) ⟨_, _, _, rfl, ne⟩ HD.out.2.1.2 t' HD.out.2.2.2.2.2.2.2.2 (d : Int) HD.out.2.2.2.1)).mono ?_
    clear S
    rintro e w5 ⟨⟨_, rfl, pd, ld, Kd, rfl, nd⟩, S, H⟩
    replace nn := nn.hold H
    replace dd := dd.hold H
    replace ne := ne.hold H
    clear H
    have c0_0 := S.c 0 0 rfl rfl
    have c0_1 := S.c 0 1 rfl rfl
    have c0_2 := S.c 0 2 rfl rfl
    have c1_0 := S.c 1 0 rfl rfl
    have c1_1 := S.c 1 1 rfl rfl
    have c1_2 := S.c 1 2 rfl rfl
    have H := S.hnew 25 [.bool (negB (d : Int)), .slice pd ld Kd]
    replace S := S.alloc 25 [.bool (negB (d : Int)), .slice pd ld Kd] (w5.heap.size)
    simp only [List.cons_append, List.nil_append] at S
    replace nn := nn.hold H
    replace dd := dd.hold H
    replace ne := ne.hold H
    replace nd := nd.hold H
    clear H
    clear c0_0 c0_1 c0_2 c1_0 c1_1 c1_2
    have c0_0 := S.c 0 0 rfl rfl
    have c0_1 := S.c 0 1 rfl rfl
    have c0_2 := S.c 0 2 rfl rfl
    have c1_0 := S.c 1 0 rfl rfl
    have c1_1 := S.c 1 1 rfl rfl
    have c1_2 := S.c 1 2 rfl rfl
    have c2_0 := S.c 2 0 rfl rfl
    have c2_1 := S.c 2 1 rfl rfl
    go_upto_region 9 with fail
    clear c0_0 c0_1 c0_2 c1_0 c1_1 c1_2 c2_0 c2_1
    replace nn := nn.hold (Hold.drew _)
    replace dd := dd.hold (Hold.drew _)
    replace ne := ne.hold (Hold.drew _)
    replace nd := nd.hold (Hold.drew _)
    replace S := S.drew
    refine wp_region_held_drew (S := fun W => W.cell? ⟨w.heap.size, 1, none⟩ = some (.slice p l K) ∧ W.cell? ⟨w5.heap.size, 1, none⟩ = some (.slice pd ld Kd)) (by kernel_rfl) ⟨S.c 0 1 rfl rfl, S.c 2 1 rfl rfl⟩ (fun hS => ?_)
    refine wpAnyH_take (i := 0) (v := ?_) ((List.getElem?_toArray ..).trans rfl) (by kernel_rfl) (by kernel_rfl) (by kernel_rfl) (fun _ _ _ h => h) (Or.inl ⟨rfl, fun W hW => ?_⟩) hS ?_
    rotate_left
    · obtain ⟨hW0, hW1⟩ := hW; go_simp; try first | rfl | (rw [if_neg (by first | omega | (simp only [ByteArray.size_append]; first | omega | (have h1 : (ByteArray.mk #[47]).size = 1 := rfl; omega)))]; try rfl) | kernel_rfl
    try simp only [Act.put, List.setIfInBounds_toArray, List.set_cons_zero, List.set_cons_succ]
    refine wpAnyH_take (i := 1) (v := ?_) ((List.getElem?_toArray ..).trans rfl) (by kernel_rfl) (by kernel_rfl) (by kernel_rfl) (fun _ _ _ h => h) (Or.inl ⟨rfl, fun W hW => ?_⟩) hS ?_
    rotate_left
    · obtain ⟨hW0, hW1⟩ := hW; go_simp; try first | rfl | (rw [if_neg (by first | omega | (simp only [ByteArray.size_append]; first | omega | (have h1 : (ByteArray.mk #[47]).size = 1 := rfl; omega)))]; try rfl) | kernel_rfl
    try simp only [Act.put, List.setIfInBounds_toArray, List.set_cons_zero, List.set_cons_succ]
    refine wpAnyH_take (i := 2) (v := ?_) ((List.getElem?_toArray ..).trans rfl) (by kernel_rfl) (by kernel_rfl) (by kernel_rfl) (fun _ _ _ h => h) (Or.inl ⟨rfl, fun W hW => ?_⟩) hS ?_
    rotate_left
    · obtain ⟨hW0, hW1⟩ := hW; go_simp; try first | rfl | (rw [if_neg (by first | omega | (simp only [ByteArray.size_append]; first | omega | (have h1 : (ByteArray.mk #[47]).size = 1 := rfl; omega)))]; try rfl) | kernel_rfl
    try simp only [Act.put, List.setIfInBounds_toArray, List.set_cons_zero, List.set_cons_succ]
    refine wpAnyH_take (i := 5) (v := ?_) ((List.getElem?_toArray ..).trans rfl) (by kernel_rfl) (by kernel_rfl) (by kernel_rfl) (fun _ _ _ h => h) (Or.inl ⟨rfl, fun W hW => ?_⟩) hS ?_
    rotate_left
    · obtain ⟨hW0, hW1⟩ := hW; go_simp; try first | rfl | (rw [if_neg (by first | omega | (simp only [ByteArray.size_append]; first | omega | (have h1 : (ByteArray.mk #[47]).size = 1 := rfl; omega)))]; try rfl) | kernel_rfl
    try simp only [Act.put, List.setIfInBounds_toArray, List.set_cons_zero, List.set_cons_succ]
    refine wpAnyH_take (i := 6) (v := ?_) ((List.getElem?_toArray ..).trans rfl) (by kernel_rfl) (by kernel_rfl) (by kernel_rfl) (fun _ _ _ h => h) (Or.inl ⟨rfl, fun W hW => ?_⟩) hS ?_
    rotate_left
    · obtain ⟨hW0, hW1⟩ := hW; go_simp; try first | rfl | (rw [if_neg (by first | omega | (simp only [ByteArray.size_append]; first | omega | (have h1 : (ByteArray.mk #[47]).size = 1 := rfl; omega)))]; try rfl) | kernel_rfl
    try simp only [Act.put, List.setIfInBounds_toArray, List.set_cons_zero, List.set_cons_succ]
    refine wpAnyH_take (i := 7) (v := ?_) ((List.getElem?_toArray ..).trans rfl) (by kernel_rfl) (by kernel_rfl) (by kernel_rfl) (fun _ _ _ h => h) (Or.inl ⟨rfl, fun W hW => ?_⟩) hS ?_
    rotate_left
    · obtain ⟨hW0, hW1⟩ := hW; go_simp; try first | rfl | (rw [if_neg (by first | omega | (simp only [ByteArray.size_append]; first | omega | (have h1 : (ByteArray.mk #[47]).size = 1 := rfl; omega)))]; try rfl) | kernel_rfl
    try simp only [Act.put, List.setIfInBounds_toArray, List.set_cons_zero, List.set_cons_succ]
    refine wpAnyH_ready (rs := [3]) (by kernel_rfl) (by simp) (AllReadyH.cons ((List.getElem?_toArray ..).trans rfl) (fun KK hKK => ?_) AllReadyH.nil)
    go_simp
    refine (S.call (bits_nat nd HM.out HD.out.2.2.2.2.2.1)).mono ?_; clear S; rintro e w6 ⟨rfl, S, H⟩; replace nn := nn.hold H; replace dd := dd.hold H; replace ne := ne.hold H; replace nd := nd.hold H; clear H
    go_wp2_with fail
    refine hKK.out _ _ ⟨S.c 0 1 rfl rfl, S.c 2 1 rfl rfl⟩ (fun hS => ?_)
    clear hKK KK
    try simp only [Act.put, List.setIfInBounds_toArray, List.set_cons_zero, List.set_cons_succ]
    refine wpAnyH_take (i := 4) (v := ?_) ((List.getElem?_toArray ..).trans rfl) (by kernel_rfl) (by kernel_rfl) (by kernel_rfl) (fun _ _ _ h => h) (Or.inl ⟨rfl, fun W hW => ?_⟩) hS ?_
    rotate_left
    · obtain ⟨hW0, hW1⟩ := hW; go_simp; try first | rfl | (rw [if_neg (by first | omega | (simp only [ByteArray.size_append]; first | omega | (have h1 : (ByteArray.mk #[47]).size = 1 := rfl; omega)))]; try rfl) | kernel_rfl
    try simp only [Act.put, List.setIfInBounds_toArray, List.set_cons_zero, List.set_cons_succ]
    refine wpAnyH_ready (rs := [8]) (by kernel_rfl) (by simp) (AllReadyH.cons ((List.getElem?_toArray ..).trans rfl) (fun KK hKK => ?_) AllReadyH.nil)
    go_simp
    refine (S.call (bits_nat nn HD.out.2.1.1 HD.out.2.2.2.2.1)).mono ?_; clear S; rintro e w7 ⟨rfl, S, H⟩; replace nn := nn.hold H; replace dd := dd.hold H; replace ne := ne.hold H; replace nd := nd.hold H; clear H
    go_wp2_with fail
    refine hKK.out _ _ ⟨S.c 0 1 rfl rfl, S.c 2 1 rfl rfl⟩ (fun hS => ?_)
    clear hKK KK
    try simp only [Act.put, List.setIfInBounds_toArray, List.set_cons_zero, List.set_cons_succ]
    refine wpAnyH_take (i := 9) (v := ?_) ((List.getElem?_toArray ..).trans rfl) (by kernel_rfl) (by kernel_rfl) (by kernel_rfl) (fun _ _ _ h => h) (Or.inl ⟨rfl, fun W hW => ?_⟩) hS ?_
    rotate_left
    · obtain ⟨hW0, hW1⟩ := hW; go_simp; try first | rfl | (rw [if_neg (by first | omega | (simp only [ByteArray.size_append]; first | omega | (have h1 : (ByteArray.mk #[47]).size = 1 := rfl; omega)))]; try rfl) | kernel_rfl
    try simp only [Act.put, List.setIfInBounds_toArray, List.set_cons_zero, List.set_cons_succ]
    refine wpAnyH_ready (rs := [10]) (by kernel_rfl) (by simp) (AllReadyH.cons ((List.getElem?_toArray ..).trans rfl) (fun KK hKK => ?_) AllReadyH.nil)
    go_simp
    refine hKK.out _ _ ⟨S.c 0 1 rfl rfl, S.c 2 1 rfl rfl⟩ (fun hS => ?_)
    clear hKK KK
    try simp only [Act.put, List.setIfInBounds_toArray, List.set_cons_zero, List.set_cons_succ]
    refine wpAnyH_done (by kernel_rfl) ?_ _
    have c0_0 := S.c 0 0 rfl rfl
    have c0_1 := S.c 0 1 rfl rfl
    have c0_2 := S.c 0 2 rfl rfl
    have c1_0 := S.c 1 0 rfl rfl
    have c1_1 := S.c 1 1 rfl rfl
    have c1_2 := S.c 1 2 rfl rfl
    have c2_0 := S.c 2 0 rfl rfl
    have c2_1 := S.c 2 1 rfl rfl
    go_wp2_with fail
    clear c0_0 c0_1 c0_2 c1_0 c1_1 c1_2 c2_0 c2_1
    refine (S.call (divided_pos ⟨_, _, _, by rw [hb.out], nn⟩ ⟨_, _, _, rfl, nd⟩ HD.out.2.1.1 HM.out g HG.out.1 N (d : Int) HG.out.2.1 rfl HG.out.2.2.1 HG.out.2.2.2.1 HM.out HG.out.2.2.2.2.2.1 up z HG.out.2.2.2.2.1 HG.out.2.2.2.2.2.2)).mono ?_
    clear S
    rintro e w8 ⟨⟨_, rfl, pz, lz, Kz, rfl, nz⟩, S, H⟩
    replace nn := nn.hold H
    replace dd := dd.hold H
    replace ne := ne.hold H
    replace nd := nd.hold H
    clear H
    have c0_0 := S.c 0 0 rfl rfl
    have c0_1 := S.c 0 1 rfl rfl
    have c0_2 := S.c 0 2 rfl rfl
    have c1_0 := S.c 1 0 rfl rfl
    have c1_1 := S.c 1 1 rfl rfl
    have c1_2 := S.c 1 2 rfl rfl
    have c2_0 := S.c 2 0 rfl rfl
    have c2_1 := S.c 2 1 rfl rfl
    have H := S.hnew 25 [.bool (negB z), .slice pz lz Kz]
    replace S := S.alloc 25 [.bool (negB z), .slice pz lz Kz] (w8.heap.size)
    simp only [List.cons_append, List.nil_append] at S
    replace nn := nn.hold H
    replace dd := dd.hold H
    replace ne := ne.hold H
    replace nd := nd.hold H
    replace nz := nz.hold H
    clear H
    clear c0_0 c0_1 c0_2 c1_0 c1_1 c1_2 c2_0 c2_1
    have c0_0 := S.c 0 0 rfl rfl
    have c0_1 := S.c 0 1 rfl rfl
    have c0_2 := S.c 0 2 rfl rfl
    have c1_0 := S.c 1 0 rfl rfl
    have c1_1 := S.c 1 1 rfl rfl
    have c1_2 := S.c 1 2 rfl rfl
    have c2_0 := S.c 2 0 rfl rfl
    have c2_1 := S.c 2 1 rfl rfl
    have c3_0 := S.c 3 0 rfl rfl
    have c3_1 := S.c 3 1 rfl rfl
    go_wp2_with fail
    clear c0_0 c0_1 c0_2 c1_0 c1_1 c1_2 c2_0 c2_1 c3_0 c3_1
    refine (S.call (dtimes_any (HD.out.1.below S.below) ⟨_, _, _, rfl, nz⟩ HY.out.1 (by have := HY.out.2.2.1; omega) (dq z f) rfl)).mono ?_
    clear S
    rintro e w9 ⟨⟨_, rfl, b4, p4, l4, K4, m4, e4, rfl, h4, n4, d4⟩, S, H⟩
    replace nn := nn.hold H
    replace dd := dd.hold H
    replace ne := ne.hold H
    replace nd := nd.hold H
    replace nz := nz.hold H
    clear H
    have c0_0 := S.c 0 0 rfl rfl
    have c0_1 := S.c 0 1 rfl rfl
    have c0_2 := S.c 0 2 rfl rfl
    have c1_0 := S.c 1 0 rfl rfl
    have c1_1 := S.c 1 1 rfl rfl
    have c1_2 := S.c 1 2 rfl rfl
    have c2_0 := S.c 2 0 rfl rfl
    have c2_1 := S.c 2 1 rfl rfl
    have c3_0 := S.c 3 0 rfl rfl
    have c3_1 := S.c 3 1 rfl rfl
    have H := S.hnew 27 [.bool b4, .slice p4 l4 K4, .int .i64 e4]
    replace S := S.alloc 27 [.bool b4, .slice p4 l4 K4, .int .i64 e4] (w9.heap.size)
    simp only [List.cons_append, List.nil_append] at S
    replace nn := nn.hold H
    replace dd := dd.hold H
    replace ne := ne.hold H
    replace nd := nd.hold H
    replace nz := nz.hold H
    replace n4 := n4.hold H
    clear H
    clear c0_0 c0_1 c0_2 c1_0 c1_1 c1_2 c2_0 c2_1 c3_0 c3_1
    have c0_0 := S.c 0 0 rfl rfl
    have c0_1 := S.c 0 1 rfl rfl
    have c0_2 := S.c 0 2 rfl rfl
    have c1_0 := S.c 1 0 rfl rfl
    have c1_1 := S.c 1 1 rfl rfl
    have c1_2 := S.c 1 2 rfl rfl
    have c2_0 := S.c 2 0 rfl rfl
    have c2_1 := S.c 2 1 rfl rfl
    have c3_0 := S.c 3 0 rfl rfl
    have c3_1 := S.c 3 1 rfl rfl
    have c4_0 := S.c 4 0 rfl rfl
    have c4_1 := S.c 4 1 rfl rfl
    have c4_2 := S.c 4 2 rfl rfl
    go_wp2_with fail
    clear c0_0 c0_1 c0_2 c1_0 c1_1 c1_2 c2_0 c2_1 c3_0 c3_1 c4_0 c4_1 c4_2
    refine (S.call (dround_any (HD.out.1.below S.below) h4 n4 d4 HY.out.2.2.1 n HY.out.2.2.2.1 HY.out.2.2.2.2 up y (by rw [rnd_canon d4.out.1 d4.out.2.2]; exact HY.out.2.1))).mono ?_
    clear S
    rintro e w10 ⟨⟨_, rfl, b3, p3, l3, K3, m3, e3, rfl, h3, n3, d3⟩, S, H⟩
    replace nn := nn.hold H
    replace dd := dd.hold H
    replace ne := ne.hold H
    replace nd := nd.hold H
    replace nz := nz.hold H
    replace n4 := n4.hold H
    clear H
    have c0_0 := S.c 0 0 rfl rfl
    have c0_1 := S.c 0 1 rfl rfl
    have c0_2 := S.c 0 2 rfl rfl
    have c1_0 := S.c 1 0 rfl rfl
    have c1_1 := S.c 1 1 rfl rfl
    have c1_2 := S.c 1 2 rfl rfl
    have c2_0 := S.c 2 0 rfl rfl
    have c2_1 := S.c 2 1 rfl rfl
    have c3_0 := S.c 3 0 rfl rfl
    have c3_1 := S.c 3 1 rfl rfl
    have c4_0 := S.c 4 0 rfl rfl
    have c4_1 := S.c 4 1 rfl rfl
    have c4_2 := S.c 4 2 rfl rfl
    have f1_0 := S.f 1 0 rfl
    have H := S.hset 1 0 (.bool b3) rfl rfl (by intro q n e; cases e)
    replace S := S.set 1 0 (.bool b3) rfl
    replace nn := nn.hold H
    replace dd := dd.hold H
    replace ne := ne.hold H
    replace nd := nd.hold H
    replace nz := nz.hold H
    replace n4 := n4.hold H
    replace n3 := n3.hold H
    clear H
    have f1_1 := S.f 1 1 rfl
    have H := S.hset 1 1 (.slice p3 l3 K3) rfl rfl (by intro q n e; cases e)
    replace S := S.set 1 1 (.slice p3 l3 K3) rfl
    replace nn := nn.hold H
    replace dd := dd.hold H
    replace ne := ne.hold H
    replace nd := nd.hold H
    replace nz := nz.hold H
    replace n4 := n4.hold H
    replace n3 := n3.hold H
    clear H
    have f1_2 := S.f 1 2 rfl
    have H := S.hset32 1 2 (.int .i64 e3) rfl rfl (by intro n e; cases e)
    replace S := S.set 1 2 (.int .i64 e3) rfl
    replace nn := nn.hold32 H
    replace dd := dd.hold32 H
    replace ne := ne.hold32 H
    replace nd := nd.hold32 H
    replace nz := nz.hold32 H
    replace n4 := n4.hold32 H
    replace n3 := n3.hold32 H
    clear H
    go_wp2_with fail
    have d1_0 := S.c 1 0 rfl rfl
    have d1_1 := S.c 1 1 rfl rfl
    have d1_2 := S.c 1 2 rfl rfl
    exact bodyPost_ret (v := .tuple #[.agg #[.bool b3, .slice p3 l3 K3, .int .i64 e3], .int .i64 0]) (by simp [results, Tryd.f18, go_sem, d1_0, d1_1, d1_2]) rfl (⟨⟨_, rfl, b3, p3, l3, K3, m3, e3, rfl, h3, n3, d3⟩, S.below⟩)
  · obtain ⟨g, hg⟩ : ∃ g : Nat, (n : Int) + (Q : Int) - (P : Int) = -(g : Int) ∧ 1 ≤ g := ⟨P - (n + Q), by omega, by omega⟩
    obtain ⟨hg, hg1⟩ := hg
    rw [hg, show (-(g : Int)).toNat = 0 by omega, show (-(-(g : Int))).toNat = g by omega, Nat.pow_zero] at hy
    have hN : (d : Int) * 2 ^ g = ((d * 2 ^ g : Nat) : Int) := by simp
    obtain ⟨D, hDD⟩ : ∃ D, d * 2 ^ g = D := ⟨_, rfl⟩
    rw [show a.num * ((1 : Nat) : Int) = a.num by simp, show (d : Int) * ((2 ^ g : Nat) : Int) = ((d * 2 ^ g : Nat) : Int) by simp, hDD] at hy
    rw [hDD] at hN
    have hD0 : 0 < D := by rw [← hDD]; exact Nat.mul_pos (by omega) (Nat.two_pow_pos g)
    have hNb : a.num.natAbs < D * 2 ^ (n + 1) := by
      rw [← hDD]
      calc a.num.natAbs < 2 ^ P := hP3
        _ = 2 ^ (Q - 1) * 2 ^ g * 2 ^ (n + 1) := by rw [← Nat.pow_add, ← Nat.pow_add]; congr 1; omega
        _ ≤ d * 2 ^ g * 2 ^ (n + 1) := Nat.mul_le_mul_right _ (Nat.mul_le_mul_right _ hQ2)
    obtain ⟨z, hz⟩ : ∃ z, divI a.num (D : Int) up = z := ⟨_, rfl⟩
    have hzb : z.natAbs < PB (n + 2) := by
      have h1 : z.natAbs ≤ 2 ^ (n + 1) := by rw [← hz]; exact divI_bits hD0 up hNb
      rw [PB_is]; exact Nat.lt_of_le_of_lt h1 (Nat.pow_lt_pow_right (by decide) (by omega))
    have hDm : D < maxN := by
      refine pb_max (n := Q + g) ?_ (by omega)
      have hQ3 := (nbits_spec hd0).2.2
      rw [hQ] at hQ3
      rw [← hDD, PB_is, Nat.pow_add]
      exact Nat.mul_lt_mul_of_pos_right hQ3 (Nat.two_pow_pos g)
    obtain ⟨f, hf⟩ : ∃ f : Int, (g : Int) - (t : Int) = f := ⟨_, rfl⟩
    have hw2 : IntKind.i64.wrap ((n : Int) + (Q : Int) - (P : Int)) = -(g : Int) := by rw [wrap_int (by omega) (by omega), hg]
    have hw3 : IntKind.i64.wrap (g : Int) = (g : Int) := wrap_int (by omega) (by omega)
    have hw4 : IntKind.i64.wrap ((g : Int) - (t : Int)) = f := by rw [wrap_int (by omega) (by omega), hf]
    rw [show -(-(g : Int)) = (g : Int) by omega] at hy
    have hzf : ZF z f (n + 64 * k) (32 * k + 2) := ZF.of (n := n + 2) hzb (by omega) (by omega)
    rw [hz, hf] at hy
    have HG := Lib.hid (And.intro (show g ≤ 100000 by omega) (And.intro hN (And.intro (show d * 2 ^ g < maxN by rw [hDD]; exact hDm) (And.intro (show ((D : Nat) : Int).natAbs < maxN from hDm) (And.intro hz (And.intro (show (0 : Int) < (D : Int) by omega) (And.intro (pb_max hzb (by omega)) hg1)))))))
    have HY := Lib.hid (And.intro hzf (And.intro hy (And.intro (show 32 * k + 2 + 1 + (n + 64 * k) ≤ 16384 by omega) (And.intro h2 h4))))
    clear hN hDD hD0 hNb hDm hg1 hz hzb hzf hy hf hg hT hak h2 h4 h0 ht hd hk hmax hn0 hs hden0 htl hdm hd0 hdle hdI hP hQ hPl hQl hP3 hQ1 hQ2 hsh
    have S := ((St.start w).alloc 45 [.bool b, .slice p l K, .slice q j J] (w.heap.size)).alloc 27 [.bool false, .slice none 0 0, .int .i64 0] (w.heap.size + 1)
    simp only [List.cons_append, List.nil_append] at S
    replace nn := nn.hold S.hold
    replace dd := dd.hold S.hold
    have c0_0 := S.c 0 0 rfl rfl
    have c0_1 := S.c 0 1 rfl rfl
    have c0_2 := S.c 0 2 rfl rfl
    have c1_0 := S.c 1 0 rfl rfl
    have c1_1 := S.c 1 1 rfl rfl
    have c1_2 := S.c 1 2 rfl rfl
    go_enter Tryd.func18, Tryd.ntmps18
    go_wp2_with fail
    clear c0_0 c0_1 c0_2 c1_0 c1_1 c1_2
    refine (S.call (bits_in n _ HN.out.1 HN.out.2)).mono ?_
    clear S
    rintro e w1 ⟨rfl, S, H⟩
    replace nn := nn.hold H
    replace dd := dd.hold H
    clear H
    have c0_0 := S.c 0 0 rfl rfl
    have c0_1 := S.c 0 1 rfl rfl
    have c0_2 := S.c 0 2 rfl rfl
    have c1_0 := S.c 1 0 rfl rfl
    have c1_1 := S.c 1 1 rfl rfl
    have c1_2 := S.c 1 2 rfl rfl
    go_wp2_with fail
    clear c0_0 c0_1 c0_2 c1_0 c1_1 c1_2
    refine (S.call (rsign_any ⟨b, p, l, K, q, j, J, rfl, hb, nn, dd⟩ HD.out.2.1.1 HD.out.2.2.1)).mono ?_
    clear S
    rintro e w2 ⟨rfl, S, H⟩
    replace nn := nn.hold H
    replace dd := dd.hold H
    clear H
    have c0_0 := S.c 0 0 rfl rfl
    have c0_1 := S.c 0 1 rfl rfl
    have c0_2 := S.c 0 2 rfl rfl
    have c1_0 := S.c 1 0 rfl rfl
    have c1_1 := S.c 1 1 rfl rfl
    have c1_2 := S.c 1 2 rfl rfl
    go_wp2_with fail
    clear c0_0 c0_1 c0_2 c1_0 c1_1 c1_2
    refine (S.call (tail_nat' dd HD.out.2.1.2 (HD.out.1.below S.below))).mono ?_
    clear S
    rintro e w3 ⟨⟨t', rfl, ht'⟩, S, H⟩
    replace nn := nn.hold H
    replace dd := dd.hold H
    clear H
    have c0_0 := S.c 0 0 rfl rfl
    have c0_1 := S.c 0 1 rfl rfl
    have c0_2 := S.c 0 2 rfl rfl
    have c1_0 := S.c 1 0 rfl rfl
    have c1_1 := S.c 1 1 rfl rfl
    have c1_2 := S.c 1 2 rfl rfl
    obtain rfl : t' = t := tail_uniq HD.out.2.2.2.2.2.2.1 ht'.out HD.out.2.2.2.2.2.2.2.1
    clear ht'
    go_wp2_with fail
    clear c0_0 c0_1 c0_2 c1_0 c1_1 c1_2
    refine (S.call (wnat_any dd HD.out.2.1.2 (a.den : Int) rfl)).mono ?_
    clear S
    rintro e w4 ⟨⟨_, rfl, pe, le, Ke, rfl, ne⟩, S, H⟩
    replace nn := nn.hold H
    replace dd := dd.hold H
    clear H
    have c0_0 := S.c 0 0 rfl rfl
    have c0_1 := S.c 0 1 rfl rfl
    have c0_2 := S.c 0 2 rfl rfl
    have c1_0 := S.c 1 0 rfl rfl
    have c1_1 := S.c 1 1 rfl rfl
    have c1_2 := S.c 1 2 rfl rfl
    go_wp2_with fail
    clear c0_0 c0_1 c0_2 c1_0 c1_1 c1_2
    refine (S.call (wright_any (HD.out.1.below S.below) ⟨_, _, _, rfl, ne⟩ HD.out.2.1.2 t' HD.out.2.2.2.2.2.2.2.2 (d : Int) HD.out.2.2.2.1)).mono ?_
    clear S
    rintro e w5 ⟨⟨_, rfl, pd, ld, Kd, rfl, nd⟩, S, H⟩
    replace nn := nn.hold H
    replace dd := dd.hold H
    replace ne := ne.hold H
    clear H
    have c0_0 := S.c 0 0 rfl rfl
    have c0_1 := S.c 0 1 rfl rfl
    have c0_2 := S.c 0 2 rfl rfl
    have c1_0 := S.c 1 0 rfl rfl
    have c1_1 := S.c 1 1 rfl rfl
    have c1_2 := S.c 1 2 rfl rfl
    have H := S.hnew 25 [.bool (negB (d : Int)), .slice pd ld Kd]
    replace S := S.alloc 25 [.bool (negB (d : Int)), .slice pd ld Kd] (w5.heap.size)
    simp only [List.cons_append, List.nil_append] at S
    replace nn := nn.hold H
    replace dd := dd.hold H
    replace ne := ne.hold H
    replace nd := nd.hold H
    clear H
    clear c0_0 c0_1 c0_2 c1_0 c1_1 c1_2
    have c0_0 := S.c 0 0 rfl rfl
    have c0_1 := S.c 0 1 rfl rfl
    have c0_2 := S.c 0 2 rfl rfl
    have c1_0 := S.c 1 0 rfl rfl
    have c1_1 := S.c 1 1 rfl rfl
    have c1_2 := S.c 1 2 rfl rfl
    have c2_0 := S.c 2 0 rfl rfl
    have c2_1 := S.c 2 1 rfl rfl
    go_upto_region 9 with fail
    clear c0_0 c0_1 c0_2 c1_0 c1_1 c1_2 c2_0 c2_1
    replace nn := nn.hold (Hold.drew _)
    replace dd := dd.hold (Hold.drew _)
    replace ne := ne.hold (Hold.drew _)
    replace nd := nd.hold (Hold.drew _)
    replace S := S.drew
    refine wp_region_held_drew (S := fun W => W.cell? ⟨w.heap.size, 1, none⟩ = some (.slice p l K) ∧ W.cell? ⟨w5.heap.size, 1, none⟩ = some (.slice pd ld Kd)) (by kernel_rfl) ⟨S.c 0 1 rfl rfl, S.c 2 1 rfl rfl⟩ (fun hS => ?_)
    refine wpAnyH_take (i := 0) (v := ?_) ((List.getElem?_toArray ..).trans rfl) (by kernel_rfl) (by kernel_rfl) (by kernel_rfl) (fun _ _ _ h => h) (Or.inl ⟨rfl, fun W hW => ?_⟩) hS ?_
    rotate_left
    · obtain ⟨hW0, hW1⟩ := hW; go_simp; try first | rfl | (rw [if_neg (by first | omega | (simp only [ByteArray.size_append]; first | omega | (have h1 : (ByteArray.mk #[47]).size = 1 := rfl; omega)))]; try rfl) | kernel_rfl
    try simp only [Act.put, List.setIfInBounds_toArray, List.set_cons_zero, List.set_cons_succ]
    refine wpAnyH_take (i := 1) (v := ?_) ((List.getElem?_toArray ..).trans rfl) (by kernel_rfl) (by kernel_rfl) (by kernel_rfl) (fun _ _ _ h => h) (Or.inl ⟨rfl, fun W hW => ?_⟩) hS ?_
    rotate_left
    · obtain ⟨hW0, hW1⟩ := hW; go_simp; try first | rfl | (rw [if_neg (by first | omega | (simp only [ByteArray.size_append]; first | omega | (have h1 : (ByteArray.mk #[47]).size = 1 := rfl; omega)))]; try rfl) | kernel_rfl
    try simp only [Act.put, List.setIfInBounds_toArray, List.set_cons_zero, List.set_cons_succ]
    refine wpAnyH_take (i := 2) (v := ?_) ((List.getElem?_toArray ..).trans rfl) (by kernel_rfl) (by kernel_rfl) (by kernel_rfl) (fun _ _ _ h => h) (Or.inl ⟨rfl, fun W hW => ?_⟩) hS ?_
    rotate_left
    · obtain ⟨hW0, hW1⟩ := hW; go_simp; try first | rfl | (rw [if_neg (by first | omega | (simp only [ByteArray.size_append]; first | omega | (have h1 : (ByteArray.mk #[47]).size = 1 := rfl; omega)))]; try rfl) | kernel_rfl
    try simp only [Act.put, List.setIfInBounds_toArray, List.set_cons_zero, List.set_cons_succ]
    refine wpAnyH_take (i := 5) (v := ?_) ((List.getElem?_toArray ..).trans rfl) (by kernel_rfl) (by kernel_rfl) (by kernel_rfl) (fun _ _ _ h => h) (Or.inl ⟨rfl, fun W hW => ?_⟩) hS ?_
    rotate_left
    · obtain ⟨hW0, hW1⟩ := hW; go_simp; try first | rfl | (rw [if_neg (by first | omega | (simp only [ByteArray.size_append]; first | omega | (have h1 : (ByteArray.mk #[47]).size = 1 := rfl; omega)))]; try rfl) | kernel_rfl
    try simp only [Act.put, List.setIfInBounds_toArray, List.set_cons_zero, List.set_cons_succ]
    refine wpAnyH_take (i := 6) (v := ?_) ((List.getElem?_toArray ..).trans rfl) (by kernel_rfl) (by kernel_rfl) (by kernel_rfl) (fun _ _ _ h => h) (Or.inl ⟨rfl, fun W hW => ?_⟩) hS ?_
    rotate_left
    · obtain ⟨hW0, hW1⟩ := hW; go_simp; try first | rfl | (rw [if_neg (by first | omega | (simp only [ByteArray.size_append]; first | omega | (have h1 : (ByteArray.mk #[47]).size = 1 := rfl; omega)))]; try rfl) | kernel_rfl
    try simp only [Act.put, List.setIfInBounds_toArray, List.set_cons_zero, List.set_cons_succ]
    refine wpAnyH_take (i := 7) (v := ?_) ((List.getElem?_toArray ..).trans rfl) (by kernel_rfl) (by kernel_rfl) (by kernel_rfl) (fun _ _ _ h => h) (Or.inl ⟨rfl, fun W hW => ?_⟩) hS ?_
    rotate_left
    · obtain ⟨hW0, hW1⟩ := hW; go_simp; try first | rfl | (rw [if_neg (by first | omega | (simp only [ByteArray.size_append]; first | omega | (have h1 : (ByteArray.mk #[47]).size = 1 := rfl; omega)))]; try rfl) | kernel_rfl
    try simp only [Act.put, List.setIfInBounds_toArray, List.set_cons_zero, List.set_cons_succ]
    refine wpAnyH_ready (rs := [3]) (by kernel_rfl) (by simp) (AllReadyH.cons ((List.getElem?_toArray ..).trans rfl) (fun KK hKK => ?_) AllReadyH.nil)
    go_simp
    refine (S.call (bits_nat nd HM.out HD.out.2.2.2.2.2.1)).mono ?_; clear S; rintro e w6 ⟨rfl, S, H⟩; replace nn := nn.hold H; replace dd := dd.hold H; replace ne := ne.hold H; replace nd := nd.hold H; clear H
    go_wp2_with fail
    refine hKK.out _ _ ⟨S.c 0 1 rfl rfl, S.c 2 1 rfl rfl⟩ (fun hS => ?_)
    clear hKK KK
    try simp only [Act.put, List.setIfInBounds_toArray, List.set_cons_zero, List.set_cons_succ]
    refine wpAnyH_take (i := 4) (v := ?_) ((List.getElem?_toArray ..).trans rfl) (by kernel_rfl) (by kernel_rfl) (by kernel_rfl) (fun _ _ _ h => h) (Or.inl ⟨rfl, fun W hW => ?_⟩) hS ?_
    rotate_left
    · obtain ⟨hW0, hW1⟩ := hW; go_simp; try first | rfl | (rw [if_neg (by first | omega | (simp only [ByteArray.size_append]; first | omega | (have h1 : (ByteArray.mk #[47]).size = 1 := rfl; omega)))]; try rfl) | kernel_rfl
    try simp only [Act.put, List.setIfInBounds_toArray, List.set_cons_zero, List.set_cons_succ]
    refine wpAnyH_ready (rs := [8]) (by kernel_rfl) (by simp) (AllReadyH.cons ((List.getElem?_toArray ..).trans rfl) (fun KK hKK => ?_) AllReadyH.nil)
    go_simp
    refine (S.call (bits_nat nn HD.out.2.1.1 HD.out.2.2.2.2.1)).mono ?_; clear S; rintro e w7 ⟨rfl, S, H⟩; replace nn := nn.hold H; replace dd := dd.hold H; replace ne := ne.hold H; replace nd := nd.hold H; clear H
    go_wp2_with fail
    refine hKK.out _ _ ⟨S.c 0 1 rfl rfl, S.c 2 1 rfl rfl⟩ (fun hS => ?_)
    clear hKK KK
    try simp only [Act.put, List.setIfInBounds_toArray, List.set_cons_zero, List.set_cons_succ]
    refine wpAnyH_take (i := 9) (v := ?_) ((List.getElem?_toArray ..).trans rfl) (by kernel_rfl) (by kernel_rfl) (by kernel_rfl) (fun _ _ _ h => h) (Or.inl ⟨rfl, fun W hW => ?_⟩) hS ?_
    rotate_left
    · obtain ⟨hW0, hW1⟩ := hW; go_simp; try first | rfl | (rw [if_neg (by first | omega | (simp only [ByteArray.size_append]; first | omega | (have h1 : (ByteArray.mk #[47]).size = 1 := rfl; omega)))]; try rfl) | kernel_rfl
    try simp only [Act.put, List.setIfInBounds_toArray, List.set_cons_zero, List.set_cons_succ]
    refine wpAnyH_ready (rs := [10]) (by kernel_rfl) (by simp) (AllReadyH.cons ((List.getElem?_toArray ..).trans rfl) (fun KK hKK => ?_) AllReadyH.nil)
    go_simp
    refine hKK.out _ _ ⟨S.c 0 1 rfl rfl, S.c 2 1 rfl rfl⟩ (fun hS => ?_)
    clear hKK KK
    try simp only [Act.put, List.setIfInBounds_toArray, List.set_cons_zero, List.set_cons_succ]
    refine wpAnyH_done (by kernel_rfl) ?_ _
    have c0_0 := S.c 0 0 rfl rfl
    have c0_1 := S.c 0 1 rfl rfl
    have c0_2 := S.c 0 2 rfl rfl
    have c1_0 := S.c 1 0 rfl rfl
    have c1_1 := S.c 1 1 rfl rfl
    have c1_2 := S.c 1 2 rfl rfl
    have c2_0 := S.c 2 0 rfl rfl
    have c2_1 := S.c 2 1 rfl rfl
    go_wp2_with fail
    clear c0_0 c0_1 c0_2 c1_0 c1_1 c1_2 c2_0 c2_1
    refine (S.call (divided_neg ⟨_, _, _, by rw [hb.out], nn⟩ ⟨_, _, _, rfl, nd⟩ HD.out.2.1.1 HM.out g HG.out.1 HG.out.2.2.2.2.2.2.2 a.num (D : Int) rfl HG.out.2.1 HG.out.2.2.1 HD.out.2.1.1 HG.out.2.2.2.1 HG.out.2.2.2.2.2.1 up z HG.out.2.2.2.2.1 HG.out.2.2.2.2.2.2.1)).mono ?_
    clear S
    rintro e w8 ⟨⟨_, rfl, pz, lz, Kz, rfl, nz⟩, S, H⟩
    replace nn := nn.hold H
    replace dd := dd.hold H
    replace ne := ne.hold H
    replace nd := nd.hold H
    clear H
    have c0_0 := S.c 0 0 rfl rfl
    have c0_1 := S.c 0 1 rfl rfl
    have c0_2 := S.c 0 2 rfl rfl
    have c1_0 := S.c 1 0 rfl rfl
    have c1_1 := S.c 1 1 rfl rfl
    have c1_2 := S.c 1 2 rfl rfl
    have c2_0 := S.c 2 0 rfl rfl
    have c2_1 := S.c 2 1 rfl rfl
    have H := S.hnew 25 [.bool (negB z), .slice pz lz Kz]
    replace S := S.alloc 25 [.bool (negB z), .slice pz lz Kz] (w8.heap.size)
    simp only [List.cons_append, List.nil_append] at S
    replace nn := nn.hold H
    replace dd := dd.hold H
    replace ne := ne.hold H
    replace nd := nd.hold H
    replace nz := nz.hold H
    clear H
    clear c0_0 c0_1 c0_2 c1_0 c1_1 c1_2 c2_0 c2_1
    have c0_0 := S.c 0 0 rfl rfl
    have c0_1 := S.c 0 1 rfl rfl
    have c0_2 := S.c 0 2 rfl rfl
    have c1_0 := S.c 1 0 rfl rfl
    have c1_1 := S.c 1 1 rfl rfl
    have c1_2 := S.c 1 2 rfl rfl
    have c2_0 := S.c 2 0 rfl rfl
    have c2_1 := S.c 2 1 rfl rfl
    have c3_0 := S.c 3 0 rfl rfl
    have c3_1 := S.c 3 1 rfl rfl
    go_wp2_with fail
    clear c0_0 c0_1 c0_2 c1_0 c1_1 c1_2 c2_0 c2_1 c3_0 c3_1
    refine (S.call (dtimes_any (HD.out.1.below S.below) ⟨_, _, _, rfl, nz⟩ HY.out.1 (by have := HY.out.2.2.1; omega) (dq z f) rfl)).mono ?_
    clear S
    rintro e w9 ⟨⟨_, rfl, b4, p4, l4, K4, m4, e4, rfl, h4, n4, d4⟩, S, H⟩
    replace nn := nn.hold H
    replace dd := dd.hold H
    replace ne := ne.hold H
    replace nd := nd.hold H
    replace nz := nz.hold H
    clear H
    have c0_0 := S.c 0 0 rfl rfl
    have c0_1 := S.c 0 1 rfl rfl
    have c0_2 := S.c 0 2 rfl rfl
    have c1_0 := S.c 1 0 rfl rfl
    have c1_1 := S.c 1 1 rfl rfl
    have c1_2 := S.c 1 2 rfl rfl
    have c2_0 := S.c 2 0 rfl rfl
    have c2_1 := S.c 2 1 rfl rfl
    have c3_0 := S.c 3 0 rfl rfl
    have c3_1 := S.c 3 1 rfl rfl
    have H := S.hnew 27 [.bool b4, .slice p4 l4 K4, .int .i64 e4]
    replace S := S.alloc 27 [.bool b4, .slice p4 l4 K4, .int .i64 e4] (w9.heap.size)
    simp only [List.cons_append, List.nil_append] at S
    replace nn := nn.hold H
    replace dd := dd.hold H
    replace ne := ne.hold H
    replace nd := nd.hold H
    replace nz := nz.hold H
    replace n4 := n4.hold H
    clear H
    clear c0_0 c0_1 c0_2 c1_0 c1_1 c1_2 c2_0 c2_1 c3_0 c3_1
    have c0_0 := S.c 0 0 rfl rfl
    have c0_1 := S.c 0 1 rfl rfl
    have c0_2 := S.c 0 2 rfl rfl
    have c1_0 := S.c 1 0 rfl rfl
    have c1_1 := S.c 1 1 rfl rfl
    have c1_2 := S.c 1 2 rfl rfl
    have c2_0 := S.c 2 0 rfl rfl
    have c2_1 := S.c 2 1 rfl rfl
    have c3_0 := S.c 3 0 rfl rfl
    have c3_1 := S.c 3 1 rfl rfl
    have c4_0 := S.c 4 0 rfl rfl
    have c4_1 := S.c 4 1 rfl rfl
    have c4_2 := S.c 4 2 rfl rfl
    go_wp2_with fail
    clear c0_0 c0_1 c0_2 c1_0 c1_1 c1_2 c2_0 c2_1 c3_0 c3_1 c4_0 c4_1 c4_2
    refine (S.call (dround_any (HD.out.1.below S.below) h4 n4 d4 HY.out.2.2.1 n HY.out.2.2.2.1 HY.out.2.2.2.2 up y (by rw [rnd_canon d4.out.1 d4.out.2.2]; exact HY.out.2.1))).mono ?_
    clear S
    rintro e w10 ⟨⟨_, rfl, b3, p3, l3, K3, m3, e3, rfl, h3, n3, d3⟩, S, H⟩
    replace nn := nn.hold H
    replace dd := dd.hold H
    replace ne := ne.hold H
    replace nd := nd.hold H
    replace nz := nz.hold H
    replace n4 := n4.hold H
    clear H
    have c0_0 := S.c 0 0 rfl rfl
    have c0_1 := S.c 0 1 rfl rfl
    have c0_2 := S.c 0 2 rfl rfl
    have c1_0 := S.c 1 0 rfl rfl
    have c1_1 := S.c 1 1 rfl rfl
    have c1_2 := S.c 1 2 rfl rfl
    have c2_0 := S.c 2 0 rfl rfl
    have c2_1 := S.c 2 1 rfl rfl
    have c3_0 := S.c 3 0 rfl rfl
    have c3_1 := S.c 3 1 rfl rfl
    have c4_0 := S.c 4 0 rfl rfl
    have c4_1 := S.c 4 1 rfl rfl
    have c4_2 := S.c 4 2 rfl rfl
    have f1_0 := S.f 1 0 rfl
    have H := S.hset 1 0 (.bool b3) rfl rfl (by intro q n e; cases e)
    replace S := S.set 1 0 (.bool b3) rfl
    replace nn := nn.hold H
    replace dd := dd.hold H
    replace ne := ne.hold H
    replace nd := nd.hold H
    replace nz := nz.hold H
    replace n4 := n4.hold H
    replace n3 := n3.hold H
    clear H
    have f1_1 := S.f 1 1 rfl
    have H := S.hset 1 1 (.slice p3 l3 K3) rfl rfl (by intro q n e; cases e)
    replace S := S.set 1 1 (.slice p3 l3 K3) rfl
    replace nn := nn.hold H
    replace dd := dd.hold H
    replace ne := ne.hold H
    replace nd := nd.hold H
    replace nz := nz.hold H
    replace n4 := n4.hold H
    replace n3 := n3.hold H
    clear H
    have f1_2 := S.f 1 2 rfl
    have H := S.hset32 1 2 (.int .i64 e3) rfl rfl (by intro n e; cases e)
    replace S := S.set 1 2 (.int .i64 e3) rfl
    replace nn := nn.hold32 H
    replace dd := dd.hold32 H
    replace ne := ne.hold32 H
    replace nd := nd.hold32 H
    replace nz := nz.hold32 H
    replace n4 := n4.hold32 H
    replace n3 := n3.hold32 H
    clear H
    go_wp2_with fail
    have d1_0 := S.c 1 0 rfl rfl
    have d1_1 := S.c 1 1 rfl rfl
    have d1_2 := S.c 1 2 rfl rfl
    exact bodyPost_ret (v := .tuple #[.agg #[.bool b3, .slice p3 l3 K3, .int .i64 e3], .int .i64 0]) (by simp [results, Tryd.f18, go_sem, d1_0, d1_1, d1_2]) rfl (⟨⟨_, rfl, b3, p3, l3, K3, m3, e3, rfl, h3, n3, d3⟩, S.below⟩)

end Go.Proofs.YtnkmcikjeicpfaaDoor

namespace Go.Proofs.YtnkmcikjeicpfaaDoor
open Go.RowKit

/-- A number that is tried: short, and as it should stand. -/
def TriedD (k : Nat) (E : Int) (b : Bool) (ds : List Nat) (e : Int) : Prop := ds.length ≤ k ∧ (-E ≤ e ∧ e ≤ E) ∧ ValidD b ds e

set_option maxRecDepth 100000 in
set_option maxHeartbeats 4000000 in
theorem dfit_any (g n : Nat) (B : Nat → Bool) (P : Nat → Option Addr) (K : Nat → Nat) (D : Nat → List Nat) (X : Nat → Int) (w : World) (hT : Tab w) (hg : g < w.heap.size) (hn : n ≤ 1000)
    (hs : ∀ j, j < n → w.cell? ⟨g, j * 3, none⟩ = some (.bool (B j)) ∧ w.cell? ⟨g, j * 3 + 1, none⟩ = some (.slice (P j) (D j).length (K j)) ∧ w.cell? ⟨g, j * 3 + 2, none⟩ = some (.int .i64 (X j)) ∧ At .u32 w (P j) (K j) (D j) ∧ Dig 4294967296 (D j)) :
    Calls Tryd.prog 5 #[.slice (some ⟨g, 0, none⟩) n n] w fun e w' => (∃ b, e = .returned (.bool b) ∧ Hid (b = true → ∀ j, j < n → TriedD 15 300 (B j) (D j) (X j))) ∧ Below w.heap.size w w' := by
  have HS := Lib.hid hs
  have HT := Lib.hid hT
  clear hs hT
  have S := St.start w
  try simp only [List.cons_append, List.nil_append] at S
  go_enter Tryd.func5, Tryd.ntmps5
  go_wp2_with fail
  go_loopw [7] (fun si wr => ∃ k : Nat, k ≤ n ∧ si = .int .i64 k ∧ Hid (∀ j, j < k → TriedD 15 300 (B j) (D j) (X j)) ∧ St w wr []) (fun si _ => n - (intOf si).toNat)
  case atStart => exact ⟨0, by omega, rfl, fun j hj => by omega, S⟩
  case round =>
    obtain ⟨k, hk, rfl, hz, S⟩ := hrel
    by_cases hlt : k < n
    · have a0 := (S.below.cell (p := ⟨g, k * 3, none⟩) hg).trans (HS.out k hlt).1
      have a1 := (S.below.cell (p := ⟨g, k * 3 + 1, none⟩) hg).trans (HS.out k hlt).2.1
      have a2 := (S.below.cell (p := ⟨g, k * 3 + 2, none⟩) hg).trans (HS.out k hlt).2.2.1
      have at1 := (HS.out k hlt).2.2.2.1.below S.below (Nat.le_refl _)
      have HD := Lib.hid (HS.out k hlt).2.2.2.2
      have HL := Lib.hid hlt
      have hki : (k : Int) < ((n : Nat) : Int) := by omega
      obtain ⟨l, hl⟩ : ∃ l, (D k).length = l := ⟨_, rfl⟩
      obtain ⟨x, hx⟩ : ∃ x, X k = x := ⟨_, rfl⟩
      have HL2 := Lib.hid (And.intro hl hx)
      rw [hl] at a1
      rw [hx] at a2
      clear hl hx hlt
      by_cases h20 : 15 < l
      · have h20' : (15 : Int) < (l : Int) := by omega
        have H := S.hnew 27 [.bool (B k), .slice (P k) l (K k), .int .i64 x]
        replace S := S.alloc 27 [.bool (B k), .slice (P k) l (K k), .int .i64 x] (wr.heap.size)
        try simp only [List.cons_append, List.nil_append] at S
        clear H
        have c0_0 := S.c 0 0 rfl rfl
        have c0_1 := S.c 0 1 rfl rfl
        have c0_2 := S.c 0 2 rfl rfl
        go_wp2_with fail
        go_ret
        first | exact ⟨⟨false, rfl, fun h => by cases h⟩, S.below⟩ | exact ⟨.inl ⟨rfl, fun _ => trivial⟩, S.below⟩ | exact ⟨.inl ⟨rfl, Lib.hid trivial⟩, S.below⟩ | exact ⟨.inl rfl, S.below⟩
      · have h20' : ¬ (15 : Int) < (l : Int) := by omega
        by_cases h21 : 300 < x
        ·
          have H := S.hnew 27 [.bool (B k), .slice (P k) l (K k), .int .i64 x]
          replace S := S.alloc 27 [.bool (B k), .slice (P k) l (K k), .int .i64 x] (wr.heap.size)
          try simp only [List.cons_append, List.nil_append] at S
          clear H
          have c0_0 := S.c 0 0 rfl rfl
          have c0_1 := S.c 0 1 rfl rfl
          have c0_2 := S.c 0 2 rfl rfl
          go_wp2_with fail
          go_ret
          first | exact ⟨⟨false, rfl, fun h => by cases h⟩, S.below⟩ | exact ⟨.inl ⟨rfl, fun _ => trivial⟩, S.below⟩ | exact ⟨.inl ⟨rfl, Lib.hid trivial⟩, S.below⟩ | exact ⟨.inl rfl, S.below⟩
        · by_cases h22 : x < -300
          ·
            have H := S.hnew 27 [.bool (B k), .slice (P k) l (K k), .int .i64 x]
            replace S := S.alloc 27 [.bool (B k), .slice (P k) l (K k), .int .i64 x] (wr.heap.size)
            try simp only [List.cons_append, List.nil_append] at S
            clear H
            have c0_0 := S.c 0 0 rfl rfl
            have c0_1 := S.c 0 1 rfl rfl
            have c0_2 := S.c 0 2 rfl rfl
            go_wp2_with fail
            go_ret
            first | exact ⟨⟨false, rfl, fun h => by cases h⟩, S.below⟩ | exact ⟨.inl ⟨rfl, fun _ => trivial⟩, S.below⟩ | exact ⟨.inl ⟨rfl, Lib.hid trivial⟩, S.below⟩ | exact ⟨.inl rfl, S.below⟩
          · have HX := Lib.hid (And.intro h20 (And.intro h21 h22))
            have H := S.hnew 27 [.bool (B k), .slice (P k) l (K k), .int .i64 x]
            replace S := S.alloc 27 [.bool (B k), .slice (P k) l (K k), .int .i64 x] (wr.heap.size)
            try simp only [List.cons_append, List.nil_append] at S
            replace at1 := at1.hold H
            clear H
            have c0_0 := S.c 0 0 rfl rfl
            have c0_1 := S.c 0 1 rfl rfl
            have c0_2 := S.c 0 2 rfl rfl
            go_wp2_with fail
            clear c0_0 c0_1 c0_2
            refine (S.call (dcheck_raw (B k) (P k) (K k) l (D k) x _ (HT.out.below S.below) at1 HD.out HL2.out.1 (by omega))).mono ?_
            clear S
            rintro e w1 ⟨⟨c, rfl, hc⟩, S, H⟩
            replace at1 := at1.hold H
            clear H
            have c0_0 := S.c 0 0 rfl rfl
            have c0_1 := S.c 0 1 rfl rfl
            have c0_2 := S.c 0 2 rfl rfl
            by_cases h0 : c = 0
            · have h0' : (c != 0) = false := by rw [h0]; rfl
              have hv := hc.out h0
              have HV := Lib.hid (show TriedD 15 300 (B k) (D k) (X k) from ⟨by have := HX.out.1; rw [HL2.out.1]; omega, by have := HX.out.2; rw [HL2.out.2]; omega, by rw [HL2.out.2]; exact hv⟩)
              clear h0 hc hv
              go_wp2_with fail
              replace S := S.take 0 (L := []) rfl
              go_roundw
              case rel =>
                refine ⟨k + 1, HL.out, by go_num, fun j hj => ?_, S⟩
                by_cases hjk : j = k
                · rw [hjk]; exact HV.out
                · exact hz.out j (by omega)
              case measure => have := HL.out; simp [intOf]; omega
            · have h0' : (c != 0) = true := by simpa using h0
              clear h0 hc
              go_wp2_with fail
              go_ret
              first | exact ⟨⟨false, rfl, fun h => by cases h⟩, S.below⟩ | exact ⟨.inl ⟨rfl, fun _ => trivial⟩, S.below⟩ | exact ⟨.inl ⟨rfl, Lib.hid trivial⟩, S.below⟩ | exact ⟨.inl rfl, S.below⟩
    · have hge : ¬ (k : Int) < ((n : Nat) : Int) := by omega
      have HZ : ∀ j, j < n → TriedD 15 300 (B j) (D j) (X j) := fun j hj => hz.out j (by omega)
      have HZ := Lib.hid HZ
      clear hlt
      go_wp2
      go_ret
      first | exact ⟨⟨true, rfl, fun _ => HZ.out⟩, S.below⟩ | exact ⟨.inr ⟨rfl, HZ⟩, S.below⟩ | exact ⟨.inr ⟨rfl, fun _ => HZ.out⟩, S.below⟩ | exact ⟨.inr rfl, S.below⟩

theorem tried_dy {k : Nat} {E e : Int} {b : Bool} {ds : List Nat} {l : Nat} {p : Option Addr} {K : Nat} {w : World} (h : TriedD k E b ds e) (hd : Dig 4294967296 ds) (hl : ds.length = l) (hat : At .u32 w p K ds) (hE : 0 ≤ E) :
    ∃ (m : Int) (x : Rat), Hid (negB m = b) ∧ IsNat w (.slice p l K) m.natAbs ∧ Hid (DyF m e x E.toNat (32 * k + E.toNat)) := by
  subst hl
  obtain ⟨h1, h2, v1, v2, _, v4⟩ := h
  have hc : Can 4294967296 ds := ⟨hd, v1⟩
  have hb := nb_len hc h1
  have hn : IsNat w (.slice p ds.length K) (val 4294967296 ds) := ⟨ds, hat.nums, hc, rfl⟩
  obtain ⟨m, hm1, hm2⟩ : ∃ z : Int, negB z = b ∧ z.natAbs = val 4294967296 ds := by
    cases b with
    | false => exact ⟨((val 4294967296 ds : Nat) : Int), negB_neg (by omega), by omega⟩
    | true =>
      refine ⟨-((val 4294967296 ds : Nat) : Int), negB_pos ?_, by omega⟩
      have : val 4294967296 ds ≠ 0 := fun e0 => v2 rfl (hc.eq_nil (by decide) e0)
      omega
  refine ⟨m, dq m e, hm1, by rw [hm2]; exact hn, ?_, ?_, rfl⟩
  · rcases v4 with ⟨a, b⟩ | a
    · exact .inl ⟨by omega, b⟩
    · exact .inr (by omega)
  · exact ZF.of (n := 32 * k) (by rw [hm2]; exact nb_pb hb (Nat.le_refl _)) (by omega) (by omega)

section
variable {w W : World} {L : List (Nat × TypeId × List Value)} {b : Nat} {t : TypeId} {b0 b1 : Bool} {p0 p1 : Option Addr} {l0 l1 K0 K1 : Nat} {x0 x1 : Int}
theorem draws2 (S : St w W L) (i : Nat) {ds0 ds1 : List Nat} (hi : L[i]? = some (b, t, [.bool b0, .slice p0 l0 K0, .int .i64 x0, .bool b1, .slice p1 l1 K1, .int .i64 x1])) (e0 : ds0.length = l0) (e1 : ds1.length = l1)
    (a0 : At .u32 W p0 K0 ds0) (a1 : At .u32 W p1 K1 ds1) (d0 : Dig 4294967296 ds0) (d1 : Dig 4294967296 ds1) :
    ∀ j, j < 2 → W.cell? ⟨b, j * 3, none⟩ = some (.bool ([b0, b1].getD j false)) ∧ W.cell? ⟨b, j * 3 + 1, none⟩ = some (.slice ([p0, p1].getD j none) ([ds0, ds1].getD j []).length ([K0, K1].getD j 0)) ∧ W.cell? ⟨b, j * 3 + 2, none⟩ = some (.int .i64 ([x0, x1].getD j 0)) ∧ At .u32 W ([p0, p1].getD j none) ([K0, K1].getD j 0) ([ds0, ds1].getD j []) ∧ Dig 4294967296 ([ds0, ds1].getD j []) := by
  subst e0; subst e1
  intro j hj
  match j, hj with
  | 0, _ => exact ⟨S.c i 0 hi rfl, S.c i 1 hi rfl, S.c i 2 hi rfl, a0, d0⟩
  | 1, _ => exact ⟨S.c i 3 hi rfl, S.c i 4 hi rfl, S.c i 5 hi rfl, a1, d1⟩
theorem draws1 (S : St w W L) (i : Nat) {ds0 : List Nat} (hi : L[i]? = some (b, t, [.bool b0, .slice p0 l0 K0, .int .i64 x0])) (e0 : ds0.length = l0)
    (a0 : At .u32 W p0 K0 ds0) (d0 : Dig 4294967296 ds0) :
    ∀ j, j < 1 → W.cell? ⟨b, j * 3, none⟩ = some (.bool ([b0].getD j false)) ∧ W.cell? ⟨b, j * 3 + 1, none⟩ = some (.slice ([p0].getD j none) ([ds0].getD j []).length ([K0].getD j 0)) ∧ W.cell? ⟨b, j * 3 + 2, none⟩ = some (.int .i64 ([x0].getD j 0)) ∧ At .u32 W ([p0].getD j none) ([K0].getD j 0) ([ds0].getD j []) ∧ Dig 4294967296 ([ds0].getD j []) := by
  subst e0
  intro j hj
  match j, hj with
  | 0, _ => exact ⟨S.c i 0 hi rfl, S.c i 1 hi rfl, S.c i 2 hi rfl, a0, d0⟩
end

end Go.Proofs.YtnkmcikjeicpfaaDoor

namespace Go.Proofs.YtnkmcikjeicpfaaDoor
open Go.RowKit

set_option maxRecDepth 100000 in
set_option maxHeartbeats 4000000 in
theorem dmake_nil {va : Value} {e : Int} {w : World} (ha : IsInt w va 0) :
    Calls Tryd.prog 10 #[va, .int .i64 e] w fun ev w' => ev = .returned (.tuple #[.agg #[.bool false, .slice none 0 0, .int .i64 0], .int .i64 0]) ∧ Below w.heap.size w w' := by
  obtain ⟨p1, l1, K1, rfl, n1⟩ := ha
  have S := ((St.start w).alloc 25 [.bool (negB 0), .slice p1 l1 K1] (w.heap.size)).alloc 27 [.bool false, .slice none 0 0, .int .i64 0] (w.heap.size + 1)
  simp only [List.cons_append, List.nil_append] at S
  replace n1 := n1.hold S.hold
  have c0_0 := S.c 0 0 rfl rfl
  have c0_1 := S.c 0 1 rfl rfl
  have c1_0 := S.c 1 0 rfl rfl
  have c1_1 := S.c 1 1 rfl rfl
  have c1_2 := S.c 1 2 rfl rfl
  go_enter Tryd.func10, Tryd.ntmps10
  go_wp2_with fail
  clear c0_0 c0_1 c1_0 c1_1 c1_2
  refine (S.call (wsign_any (z := 0) (s := 0) ⟨_, _, _, rfl, n1⟩ (lt_maxN (by decide)) rfl)).mono ?_
  clear S
  rintro e w1 ⟨rfl, S, H⟩
  replace n1 := n1.hold H
  clear H
  have c0_0 := S.c 0 0 rfl rfl
  have c0_1 := S.c 0 1 rfl rfl
  have c1_0 := S.c 1 0 rfl rfl
  have c1_1 := S.c 1 1 rfl rfl
  have c1_2 := S.c 1 2 rfl rfl
  have f1_0 := S.f 1 0 rfl
  have H := S.hset 1 0 (.bool false) rfl rfl (by intro q n e; cases e)
  replace S := S.set 1 0 (.bool false) rfl
  replace n1 := n1.hold H
  clear H
  have f1_1 := S.f 1 1 rfl
  have H := S.hset 1 1 (.slice none 0 0) rfl rfl (by intro q n e; cases e)
  replace S := S.set 1 1 (.slice none 0 0) rfl
  replace n1 := n1.hold H
  clear H
  have f1_2 := S.f 1 2 rfl
  have H := S.hset32 1 2 (.int .i64 0) rfl rfl (by intro n e; cases e)
  replace S := S.set 1 2 (.int .i64 0) rfl
  replace n1 := n1.hold32 H
  clear H
  go_wp2_with fail
  have d1_0 := S.c 1 0 rfl rfl
  have d1_1 := S.c 1 1 rfl rfl
  have d1_2 := S.c 1 2 rfl rfl
  exact bodyPost_ret (v := .tuple #[.agg #[.bool false, .slice none 0 0, .int .i64 0], .int .i64 0]) (by simp [results, Tryd.f10, go_sem, d1_0, d1_1, d1_2]) rfl (⟨rfl, S.below⟩)

set_option maxRecDepth 100000 in
set_option maxHeartbeats 4000000 in
/-- Beyond the powers that may be. -/
theorem dmake_range {va : Value} {z e : Int} {w : World} (hT : Tab w) (ha : IsInt w va z) (hz : z.natAbs < maxN) (h0 : z ≠ 0) (t : Nat) (ht : TailIs z.natAbs t) (htl : t ≤ 16384) (h : (e < -65536 ∨ 65536 < e) ∨ (-65536 ≤ e ∧ e ≤ 65536 ∧ 65536 < e + t)) :
    Calls Tryd.prog 10 #[va, .int .i64 e] w fun ev w' => ev = .returned (.tuple #[.agg #[.bool false, .slice none 0 0, .int .i64 0], .int .i64 1]) ∧ Below w.heap.size w w' := by
  obtain ⟨p1, l1, K1, rfl, n1⟩ := ha
  obtain ⟨b1, hb1⟩ : ∃ b1, negB z = b1 := ⟨_, rfl⟩
  rw [hb1]
  obtain ⟨s, hs⟩ : ∃ s, z.sign = s := ⟨_, rfl⟩
  have hs1 : (s == 0) = false := by rw [← hs]; simpa using fun h => h0 (Int.sign_eq_zero_iff_zero.1 h)
  have hz0 : z.natAbs ≠ 0 := by omega
  have HD := Lib.hid (And.intro hT (And.intro hz (And.intro hs (And.intro hb1 (And.intro hz0 ht)))))
  clear hT hz hs hb1 h0 hz0 ht
  rcases h with h | ⟨h1, h2, h3⟩
  · have HE := Lib.hid h
    clear h
    have S := ((St.start w).alloc 25 [.bool b1, .slice p1 l1 K1] (w.heap.size)).alloc 27 [.bool false, .slice none 0 0, .int .i64 0] (w.heap.size + 1)
    simp only [List.cons_append, List.nil_append] at S
    replace n1 := n1.hold S.hold
    have c0_0 := S.c 0 0 rfl rfl
    have c0_1 := S.c 0 1 rfl rfl
    have c1_0 := S.c 1 0 rfl rfl
    have c1_1 := S.c 1 1 rfl rfl
    have c1_2 := S.c 1 2 rfl rfl
    go_enter Tryd.func10, Tryd.ntmps10
    go_wp2_with fail
    clear c0_0 c0_1 c1_0 c1_1 c1_2
    refine (S.call (wsign_any ⟨_, _, _, by rw [HD.out.2.2.2.1], n1⟩ HD.out.2.1 HD.out.2.2.1)).mono ?_
    clear S
    rintro e w1 ⟨rfl, S, H⟩
    replace n1 := n1.hold H
    clear H
    have c0_0 := S.c 0 0 rfl rfl
    have c0_1 := S.c 0 1 rfl rfl
    have c1_0 := S.c 1 0 rfl rfl
    have c1_1 := S.c 1 1 rfl rfl
    have c1_2 := S.c 1 2 rfl rfl
    go_wp2_with fail
    clear c0_0 c0_1 c1_0 c1_1 c1_2
    refine (S.call (tail_nat' n1 HD.out.2.1 (HD.out.1.below S.below))).mono ?_
    clear S
    rintro e w2 ⟨⟨t', rfl, ht'⟩, S, H⟩
    replace n1 := n1.hold H
    clear H
    have c0_0 := S.c 0 0 rfl rfl
    have c0_1 := S.c 0 1 rfl rfl
    have c1_0 := S.c 1 0 rfl rfl
    have c1_1 := S.c 1 1 rfl rfl
    have c1_2 := S.c 1 2 rfl rfl
    go_wp2_with fail
    clear c0_0 c0_1 c1_0 c1_1 c1_2
    refine (S.call (exp_out e _ HE.out)).mono ?_
    clear S
    rintro e w3 ⟨rfl, S, H⟩
    replace n1 := n1.hold H
    clear H
    have c0_0 := S.c 0 0 rfl rfl
    have c0_1 := S.c 0 1 rfl rfl
    have c1_0 := S.c 1 0 rfl rfl
    have c1_1 := S.c 1 1 rfl rfl
    have c1_2 := S.c 1 2 rfl rfl
    clear c0_0 c0_1 c1_0 c1_1 c1_2
    have c0_0 := S.c 0 0 rfl rfl
    have c0_1 := S.c 0 1 rfl rfl
    have c1_0 := S.c 1 0 rfl rfl
    have c1_1 := S.c 1 1 rfl rfl
    have c1_2 := S.c 1 2 rfl rfl
    have f1_0 := S.f 1 0 rfl
    have H := S.hset 1 0 (.bool false) rfl rfl (by intro q n e; cases e)
    replace S := S.set 1 0 (.bool false) rfl
    replace n1 := n1.hold H
    clear H
    have f1_1 := S.f 1 1 rfl
    have H := S.hset 1 1 (.slice none 0 0) rfl rfl (by intro q n e; cases e)
    replace S := S.set 1 1 (.slice none 0 0) rfl
    replace n1 := n1.hold H
    clear H
    have f1_2 := S.f 1 2 rfl
    have H := S.hset32 1 2 (.int .i64 0) rfl rfl (by intro n e; cases e)
    replace S := S.set 1 2 (.int .i64 0) rfl
    replace n1 := n1.hold32 H
    clear H
    go_wp2_with fail
    have d1_0 := S.c 1 0 rfl rfl
    have d1_1 := S.c 1 1 rfl rfl
    have d1_2 := S.c 1 2 rfl rfl
    exact bodyPost_ret (v := .tuple #[.agg #[.bool false, .slice none 0 0, .int .i64 0], .int .i64 1]) (by simp [results, Tryd.f10, go_sem, d1_0, d1_1, d1_2]) rfl (⟨rfl, S.below⟩)
  · obtain ⟨f, hf⟩ : ∃ f, e + (t : Int) = f := ⟨_, rfl⟩
    have hwr : IntKind.i64.wrap (e + (t : Int)) = f := by rw [wrap_int (by omega) (by omega), hf]
    have HE := Lib.hid (And.intro (And.intro h1 h2) (show f < -65536 ∨ 65536 < f by omega))
    clear h1 h2 h3 hf
    have S := ((St.start w).alloc 25 [.bool b1, .slice p1 l1 K1] (w.heap.size)).alloc 27 [.bool false, .slice none 0 0, .int .i64 0] (w.heap.size + 1)
    simp only [List.cons_append, List.nil_append] at S
    replace n1 := n1.hold S.hold
    have c0_0 := S.c 0 0 rfl rfl
    have c0_1 := S.c 0 1 rfl rfl
    have c1_0 := S.c 1 0 rfl rfl
    have c1_1 := S.c 1 1 rfl rfl
    have c1_2 := S.c 1 2 rfl rfl
    go_enter Tryd.func10, Tryd.ntmps10
    go_wp2_with fail
    clear c0_0 c0_1 c1_0 c1_1 c1_2
    refine (S.call (wsign_any ⟨_, _, _, by rw [HD.out.2.2.2.1], n1⟩ HD.out.2.1 HD.out.2.2.1)).mono ?_
    clear S
    rintro e w1 ⟨rfl, S, H⟩
    replace n1 := n1.hold H
    clear H
    have c0_0 := S.c 0 0 rfl rfl
    have c0_1 := S.c 0 1 rfl rfl
    have c1_0 := S.c 1 0 rfl rfl
    have c1_1 := S.c 1 1 rfl rfl
    have c1_2 := S.c 1 2 rfl rfl
    go_wp2_with fail
    clear c0_0 c0_1 c1_0 c1_1 c1_2
    refine (S.call (tail_nat' n1 HD.out.2.1 (HD.out.1.below S.below))).mono ?_
    clear S
    rintro e w2 ⟨⟨t', rfl, ht'⟩, S, H⟩
    replace n1 := n1.hold H
    clear H
    have c0_0 := S.c 0 0 rfl rfl
    have c0_1 := S.c 0 1 rfl rfl
    have c1_0 := S.c 1 0 rfl rfl
    have c1_1 := S.c 1 1 rfl rfl
    have c1_2 := S.c 1 2 rfl rfl
    obtain rfl : t' = t := tail_uniq HD.out.2.2.2.2.1 ht'.out HD.out.2.2.2.2.2
    clear ht'
    go_wp2_with fail
    clear c0_0 c0_1 c1_0 c1_1 c1_2
    refine (S.call (exp_in e _ HE.out.1.1 HE.out.1.2)).mono ?_
    clear S
    rintro e w3 ⟨rfl, S, H⟩
    replace n1 := n1.hold H
    clear H
    have c0_0 := S.c 0 0 rfl rfl
    have c0_1 := S.c 0 1 rfl rfl
    have c1_0 := S.c 1 0 rfl rfl
    have c1_1 := S.c 1 1 rfl rfl
    have c1_2 := S.c 1 2 rfl rfl
    go_wp2_with fail
    clear c0_0 c0_1 c1_0 c1_1 c1_2
    refine (S.call (exp_out f _ HE.out.2)).mono ?_
    clear S
    rintro e w4 ⟨rfl, S, H⟩
    replace n1 := n1.hold H
    clear H
    have c0_0 := S.c 0 0 rfl rfl
    have c0_1 := S.c 0 1 rfl rfl
    have c1_0 := S.c 1 0 rfl rfl
    have c1_1 := S.c 1 1 rfl rfl
    have c1_2 := S.c 1 2 rfl rfl
    clear c0_0 c0_1 c1_0 c1_1 c1_2
    have c0_0 := S.c 0 0 rfl rfl
    have c0_1 := S.c 0 1 rfl rfl
    have c1_0 := S.c 1 0 rfl rfl
    have c1_1 := S.c 1 1 rfl rfl
    have c1_2 := S.c 1 2 rfl rfl
    have f1_0 := S.f 1 0 rfl
    have H := S.hset 1 0 (.bool false) rfl rfl (by intro q n e; cases e)
    replace S := S.set 1 0 (.bool false) rfl
    replace n1 := n1.hold H
    clear H
    have f1_1 := S.f 1 1 rfl
    have H := S.hset 1 1 (.slice none 0 0) rfl rfl (by intro q n e; cases e)
    replace S := S.set 1 1 (.slice none 0 0) rfl
    replace n1 := n1.hold H
    clear H
    have f1_2 := S.f 1 2 rfl
    have H := S.hset32 1 2 (.int .i64 0) rfl rfl (by intro n e; cases e)
    replace S := S.set 1 2 (.int .i64 0) rfl
    replace n1 := n1.hold32 H
    clear H
    go_wp2_with fail
    have d1_0 := S.c 1 0 rfl rfl
    have d1_1 := S.c 1 1 rfl rfl
    have d1_2 := S.c 1 2 rfl rfl
    exact bodyPost_ret (v := .tuple #[.agg #[.bool false, .slice none 0 0, .int .i64 0], .int .i64 1]) (by simp [results, Tryd.f10, go_sem, d1_0, d1_1, d1_2]) rfl (⟨rfl, S.below⟩)

set_option maxRecDepth 100000 in
set_option maxHeartbeats 4000000 in
/-- Of any power that may be. -/
theorem dmake_wide {va : Value} {z e : Int} {w : World} (hT : Tab w) (ha : IsInt w va z) (hz : z.natAbs < maxN) (h0 : z ≠ 0) (t : Nat) (ht : TailIs z.natAbs t) (htl : t ≤ 16384) (he : -65536 ≤ e ∧ e ≤ 65536) (f : Int) (hf : e + (t : Int) = f) (hf2 : f ≤ 65536) (o : Int) (ho : z / 2 ^ t = o) :
    Calls Tryd.prog 10 #[va, .int .i64 e] w fun ev w' => (∃ p l K, ev = .returned (.tuple #[.agg #[.bool (negB o), .slice p l K, .int .i64 f], .int .i64 0]) ∧ IsNat w' (.slice p l K) o.natAbs) ∧ Below w.heap.size w w' := by
  obtain ⟨p1, l1, K1, rfl, n1⟩ := ha
  obtain ⟨b1, hb1⟩ : ∃ b1, negB z = b1 := ⟨_, rfl⟩
  rw [hb1]
  obtain ⟨s, hs⟩ : ∃ s, z.sign = s := ⟨_, rfl⟩
  have hs1 : (s == 0) = false := by rw [← hs]; simpa using fun h => h0 (Int.sign_eq_zero_iff_zero.1 h)
  have hwr : IntKind.i64.wrap (e + (t : Int)) = f := by rw [wrap_int (by omega) (by omega), hf]
  have HD := Lib.hid (And.intro hT (And.intro hz (And.intro hs (And.intro hb1 (And.intro (show z.natAbs ≠ 0 by omega) (And.intro ht (And.intro he (And.intro (show -65536 ≤ f ∧ f ≤ 65536 by omega) (And.intro (show t ≤ 9223372036854775807 by omega) ho)))))))))
  clear hT hz hs hb1 h0 ht he hf hf2 ho htl
  have S := ((St.start w).alloc 25 [.bool b1, .slice p1 l1 K1] (w.heap.size)).alloc 27 [.bool false, .slice none 0 0, .int .i64 0] (w.heap.size + 1)
  simp only [List.cons_append, List.nil_append] at S
  replace n1 := n1.hold S.hold
  have c0_0 := S.c 0 0 rfl rfl
  have c0_1 := S.c 0 1 rfl rfl
  have c1_0 := S.c 1 0 rfl rfl
  have c1_1 := S.c 1 1 rfl rfl
  have c1_2 := S.c 1 2 rfl rfl
  go_enter Tryd.func10, Tryd.ntmps10
  go_wp2_with fail
  clear c0_0 c0_1 c1_0 c1_1 c1_2
  refine (S.call (wsign_any ⟨_, _, _, by rw [HD.out.2.2.2.1], n1⟩ HD.out.2.1 HD.out.2.2.1)).mono ?_
  clear S
  rintro e w1 ⟨rfl, S, H⟩
  replace n1 := n1.hold H
  clear H
  have c0_0 := S.c 0 0 rfl rfl
  have c0_1 := S.c 0 1 rfl rfl
  have c1_0 := S.c 1 0 rfl rfl
  have c1_1 := S.c 1 1 rfl rfl
  have c1_2 := S.c 1 2 rfl rfl
  go_wp2_with fail
  clear c0_0 c0_1 c1_0 c1_1 c1_2
  refine (S.call (tail_nat' n1 HD.out.2.1 (HD.out.1.below S.below))).mono ?_
  clear S
  rintro e w2 ⟨⟨t', rfl, ht'⟩, S, H⟩
  replace n1 := n1.hold H
  clear H
  have c0_0 := S.c 0 0 rfl rfl
  have c0_1 := S.c 0 1 rfl rfl
  have c1_0 := S.c 1 0 rfl rfl
  have c1_1 := S.c 1 1 rfl rfl
  have c1_2 := S.c 1 2 rfl rfl
  obtain rfl : t' = t := tail_uniq HD.out.2.2.2.2.1 ht'.out HD.out.2.2.2.2.2.1
  clear ht'
  go_wp2_with fail
  clear c0_0 c0_1 c1_0 c1_1 c1_2
  refine (S.call (exp_in e _ HD.out.2.2.2.2.2.2.1.1 HD.out.2.2.2.2.2.2.1.2)).mono ?_
  clear S
  rintro e w3 ⟨rfl, S, H⟩
  replace n1 := n1.hold H
  clear H
  have c0_0 := S.c 0 0 rfl rfl
  have c0_1 := S.c 0 1 rfl rfl
  have c1_0 := S.c 1 0 rfl rfl
  have c1_1 := S.c 1 1 rfl rfl
  have c1_2 := S.c 1 2 rfl rfl
  go_wp2_with fail
  clear c0_0 c0_1 c1_0 c1_1 c1_2
  refine (S.call (exp_in f _ HD.out.2.2.2.2.2.2.2.1.1 HD.out.2.2.2.2.2.2.2.1.2)).mono ?_
  clear S
  rintro e w4 ⟨rfl, S, H⟩
  replace n1 := n1.hold H
  clear H
  have c0_0 := S.c 0 0 rfl rfl
  have c0_1 := S.c 0 1 rfl rfl
  have c1_0 := S.c 1 0 rfl rfl
  have c1_1 := S.c 1 1 rfl rfl
  have c1_2 := S.c 1 2 rfl rfl
  clear c0_0 c0_1 c1_0 c1_1 c1_2
  have c0_0 := S.c 0 0 rfl rfl
  have c0_1 := S.c 0 1 rfl rfl
  have c1_0 := S.c 1 0 rfl rfl
  have c1_1 := S.c 1 1 rfl rfl
  have c1_2 := S.c 1 2 rfl rfl
  go_wp2_with fail
  clear c0_0 c0_1 c1_0 c1_1 c1_2
  refine (S.call (wright_any (HD.out.1.below S.below) ⟨_, _, _, by rw [HD.out.2.2.2.1], n1⟩ HD.out.2.1 t' HD.out.2.2.2.2.2.2.2.2.1 o HD.out.2.2.2.2.2.2.2.2.2)).mono ?_
  clear S
  rintro e w5 ⟨⟨_, rfl, p, l, K, rfl, no⟩, S, H⟩
  replace n1 := n1.hold H
  clear H
  have c0_0 := S.c 0 0 rfl rfl
  have c0_1 := S.c 0 1 rfl rfl
  have c1_0 := S.c 1 0 rfl rfl
  have c1_1 := S.c 1 1 rfl rfl
  have c1_2 := S.c 1 2 rfl rfl
  have H := S.hnew 25 [.bool (negB o), .slice p l K]
  replace S := S.alloc 25 [.bool (negB o), .slice p l K] (w5.heap.size)
  simp only [List.cons_append, List.nil_append] at S
  replace n1 := n1.hold H
  replace no := no.hold H
  clear H
  clear c0_0 c0_1 c1_0 c1_1 c1_2
  have c0_0 := S.c 0 0 rfl rfl
  have c0_1 := S.c 0 1 rfl rfl
  have c1_0 := S.c 1 0 rfl rfl
  have c1_1 := S.c 1 1 rfl rfl
  have c1_2 := S.c 1 2 rfl rfl
  have c2_0 := S.c 2 0 rfl rfl
  have c2_1 := S.c 2 1 rfl rfl
  have f1_0 := S.f 1 0 rfl
  have H := S.hset 1 0 (.bool (negB o)) rfl rfl (by intro q n e; cases e)
  replace S := S.set 1 0 (.bool (negB o)) rfl
  replace n1 := n1.hold H
  replace no := no.hold H
  clear H
  have f1_1 := S.f 1 1 rfl
  have H := S.hset 1 1 (.slice p l K) rfl rfl (by intro q n e; cases e)
  replace S := S.set 1 1 (.slice p l K) rfl
  replace n1 := n1.hold H
  replace no := no.hold H
  clear H
  have f1_2 := S.f 1 2 rfl
  have H := S.hset32 1 2 (.int .i64 f) rfl rfl (by intro n e; cases e)
  replace S := S.set 1 2 (.int .i64 f) rfl
  replace n1 := n1.hold32 H
  replace no := no.hold32 H
  clear H
  go_wp2_with fail
  have d1_0 := S.c 1 0 rfl rfl
  have d1_1 := S.c 1 1 rfl rfl
  have d1_2 := S.c 1 2 rfl rfl
  exact bodyPost_ret (v := .tuple #[.agg #[.bool (negB o), .slice p l K, .int .i64 f], .int .i64 0]) (by simp [results, Tryd.f10, go_sem, d1_0, d1_1, d1_2]) rfl (⟨⟨p, l, K, rfl, no⟩, S.below⟩)

set_option maxRecDepth 100000 in
set_option maxHeartbeats 4000000 in
theorem dcheck_wide {b : Bool} {p : Option Addr} {l K : Nat} {m e : Int} {w : World} (hT : Tab w) (hb : Hid (negB m = b)) (nm : IsNat w (.slice p l K) m.natAbs) (hm : m.natAbs < maxN) (h1 : m % 2 = 1) (he : -65536 ≤ e ∧ e ≤ 65536) :
    Calls Tryd.prog 8 #[.agg #[.bool b, .slice p l K, .int .i64 e]] w fun ev w' => ev = .returned (.int .i64 0) ∧ Below w.heap.size w w' := by
  obtain ⟨s, hs⟩ : ∃ s, m.sign = s := ⟨_, rfl⟩
  have hs1 : (s == 0) = false := by
    rw [← hs]
    have hne : m ≠ 0 := by omega
    simpa using hne
  have HD := Lib.hid (And.intro hT (And.intro hm (And.intro hs (And.intro h1 he))))
  clear hT hm hs h1 he
  have S := (St.start w).alloc 27 [.bool b, .slice p l K, .int .i64 e] (w.heap.size)
  simp only [List.nil_append] at S
  replace nm := nm.hold S.hold
  have c0_0 := S.c 0 0 rfl rfl
  have c0_1 := S.c 0 1 rfl rfl
  have c0_2 := S.c 0 2 rfl rfl
  go_enter Tryd.func8, Tryd.ntmps8
  go_wp2_with fail
  clear c0_0 c0_1 c0_2
  refine (S.call (wcheck_any ⟨_, _, _, by rw [hb.out], nm⟩ HD.out.2.1)).mono ?_
  clear S
  rintro e w1 ⟨rfl, S, H⟩
  replace nm := nm.hold H
  clear H
  have c0_0 := S.c 0 0 rfl rfl
  have c0_1 := S.c 0 1 rfl rfl
  have c0_2 := S.c 0 2 rfl rfl
  go_wp2_with fail
  clear c0_0 c0_1 c0_2
  refine (S.call (wsign_any ⟨_, _, _, by rw [hb.out], nm⟩ HD.out.2.1 HD.out.2.2.1)).mono ?_
  clear S
  rintro e w2 ⟨rfl, S, H⟩
  replace nm := nm.hold H
  clear H
  have c0_0 := S.c 0 0 rfl rfl
  have c0_1 := S.c 0 1 rfl rfl
  have c0_2 := S.c 0 2 rfl rfl
  go_wp2_with fail
  clear c0_0 c0_1 c0_2
  refine (S.call (exp_in e _ HD.out.2.2.2.2.1 HD.out.2.2.2.2.2)).mono ?_
  clear S
  rintro e w3 ⟨rfl, S, H⟩
  replace nm := nm.hold H
  clear H
  have c0_0 := S.c 0 0 rfl rfl
  have c0_1 := S.c 0 1 rfl rfl
  have c0_2 := S.c 0 2 rfl rfl
  go_wp2_with fail
  clear c0_0 c0_1 c0_2
  refine (S.call (tail_nat' nm HD.out.2.1 (HD.out.1.below S.below))).mono ?_
  clear S
  rintro e w4 ⟨⟨t, rfl, ht⟩, S, H⟩
  replace nm := nm.hold H
  clear H
  have c0_0 := S.c 0 0 rfl rfl
  have c0_1 := S.c 0 1 rfl rfl
  have c0_2 := S.c 0 2 rfl rfl
  obtain rfl := tail_none HD.out.2.2.2.1 ht.out
  clear ht
  go_wp2_with fail
  exact bodyPost_ret (v := .int .i64 0) (by simp [results, Tryd.f8, go_sem]) rfl (⟨rfl, S.below⟩)

set_option maxRecDepth 100000 in
set_option maxHeartbeats 4000000 in
theorem dfew_any {b : Bool} {p : Option Addr} {l K : Nat} {m e : Int} {w : World} (nm : IsNat w (.slice p l K) m.natAbs) (hm : m.natAbs < maxN) (n : Int) (r : Bool) (hr : decide ((nbits m.natAbs : Int) ≤ n) = r) :
    Calls Tryd.prog 7 #[.agg #[.bool b, .slice p l K, .int .i64 e], .int .i64 n] w fun ev w' => ev = .returned (.bool r) ∧ Below w.heap.size w w' := by
  obtain ⟨t, ht⟩ : ∃ t, nbits m.natAbs = t := ⟨_, rfl⟩
  rw [ht] at hr
  have HD := Lib.hid (And.intro hm ht)
  clear hm ht
  have S := (St.start w).alloc 27 [.bool b, .slice p l K, .int .i64 e] (w.heap.size)
  simp only [List.nil_append] at S
  replace nm := nm.hold S.hold
  have c0_0 := S.c 0 0 rfl rfl
  have c0_1 := S.c 0 1 rfl rfl
  have c0_2 := S.c 0 2 rfl rfl
  go_enter Tryd.func7, Tryd.ntmps7
  go_wp2_with fail
  clear c0_0 c0_1 c0_2
  refine (S.call (bits_nat nm HD.out.1 HD.out.2)).mono ?_
  clear S
  rintro e w1 ⟨rfl, S, H⟩
  replace nm := nm.hold H
  clear H
  have c0_0 := S.c 0 0 rfl rfl
  have c0_1 := S.c 0 1 rfl rfl
  have c0_2 := S.c 0 2 rfl rfl
  go_wp2_with fail
  exact bodyPost_ret (v := .bool r) (by simp [results, Tryd.f7, go_sem]) rfl (⟨rfl, S.below⟩)

end Go.Proofs.YtnkmcikjeicpfaaDoor

namespace Go.Proofs.YtnkmcikjeicpfaaDoor
open Go.RowKit

theorem dq_step (q r e : Int) (v : Nat) : dq (q * ((2 ^ v : Nat) : Int) + r) e = dq q (e + v) + dq r e := by rw [← dq_add, dq_shift]
theorem rnd_parts {m : Int} (hm : m % 2 = 1) (v : Nat) (hv : 1 ≤ v) : ∃ q r : Int, m / 2 ^ v = q ∧ m = q * ((2 ^ v : Nat) : Int) + r ∧ 0 < r ∧ r < ((2 ^ v : Nat) : Int) := by
  obtain ⟨d, hd⟩ : ∃ d : Nat, 2 ^ v = d := ⟨_, rfl⟩
  have hp : (2 : Int) ^ v = (d : Int) := by rw [← hd]; simp
  have hd0 : 0 < d := by rw [← hd]; exact Nat.two_pow_pos v
  have hd2 : d % 2 = 0 := by
    obtain ⟨u, hu⟩ : ∃ u, v = u + 1 := ⟨v - 1, by omega⟩
    rw [← hd, hu, Nat.pow_succ, Nat.mul_mod_left]
  rw [hp, hd]
  have h1 := Int.emod_add_mul_ediv m (d : Int)
  have h2 := Int.emod_nonneg m (show (d : Int) ≠ 0 by omega)
  have h3 := Int.emod_lt_of_pos m (show (0 : Int) < (d : Int) by omega)
  refine ⟨m / (d : Int), m % (d : Int), rfl, by rw [Int.mul_comm]; omega, ?_, h3⟩
  rcases Int.lt_or_eq_of_le h2 with h | h
  · exact h
  · exfalso
    have h4 := Int.dvd_of_emod_eq_zero h.symm
    obtain ⟨c, hc⟩ := h4
    obtain ⟨g, hg⟩ : ∃ g : Nat, d = 2 * g := ⟨d / 2, by omega⟩
    rw [hg, Int.natCast_mul, Int.mul_assoc] at hc
    omega
/-- Of a number of more bits: what is rounded lies beside it, by less than one in the last place. -/
theorem rnd_off {m e : Int} {n : Nat} (hc : DyC m e) (hn : n < nbits m.natAbs) (up : Bool) :
    (up = false → rnd m e n up < dq m e ∧ dq m e < rnd m e n up + dq 1 (e + ((nbits m.natAbs - n : Nat) : Int))) ∧ (up = true → dq m e < rnd m e n up ∧ rnd m e n up - dq 1 (e + ((nbits m.natAbs - n : Nat) : Int)) < dq m e) := by
  have hm : m % 2 = 1 := by
    rcases hc with ⟨h, _⟩ | h
    · subst h; exact absurd hn (by simp [nbits])
    · exact h
  obtain ⟨v, hv⟩ : ∃ v, nbits m.natAbs - n = v := ⟨_, rfl⟩
  obtain ⟨q, r, h1, h2, h3, h4⟩ := rnd_parts hm v (by omega)
  unfold rnd rndI
  rw [if_neg (by omega), hv, h1]
  have e1 : dq m e = dq q (e + v) + dq r e := by conv => lhs; rw [h2]
                                                 exact dq_step q r e v
  have e2 : 0 < dq r e := by have := (dq_lt 0 r e).2 h3; rwa [dq_zero] at this
  have e3 : dq r e < dq 1 (e + v) := by rw [← dq_one_pow]; exact (dq_lt _ _ e).2 h4
  have e4 : dq (q + 1) (e + v) = dq q (e + v) + dq 1 (e + v) := (dq_add q 1 _).symm
  constructor
  · intro h; subst h
    rw [if_neg (by decide), Int.add_zero, e1]
    constructor <;> grind
  · intro h; subst h
    rw [if_pos rfl, e4, e1]
    constructor <;> grind
theorem rnd_same {m e : Int} {n : Nat} (hn : nbits m.natAbs ≤ n) (up : Bool) : rnd m e n up = dq m e := by unfold rnd; rw [if_pos hn]
/-- What is rounded has so few bits. -/
theorem rnd_few {m e p f : Int} {n : Nat} {up : Bool} (hn : 2 ≤ n) (hc : DyC m e) (hp : DyC p f) (h : dq p f = rnd m e n up) : nbits p.natAbs ≤ n := by
  by_cases h1 : nbits m.natAbs ≤ n
  · rw [rnd_same h1] at h
    rw [(dyc_uniq hp hc h).1]
    exact h1
  · obtain ⟨v, hv⟩ : ∃ v, nbits m.natAbs - n = v := ⟨_, rfl⟩
    have h2 := rndI_le m v up
    have hm0 : m.natAbs ≠ 0 := by intro e0; rw [e0] at h1; simp [nbits] at h1
    obtain ⟨_, _, h3⟩ := nbits_spec hm0
    rw [show nbits m.natAbs = n + v by omega, Nat.pow_add] at h3
    unfold rnd at h
    rw [if_neg h1, hv] at h
    have hz : (rndI m v up).natAbs ≤ 2 ^ n := by
      have h4 : (rndI m v up).natAbs * 2 ^ v < (2 ^ n + 1) * 2 ^ v := by rw [Nat.add_mul, Nat.one_mul]; omega
      have := Nat.lt_of_mul_lt_mul_right h4
      omega
    rcases hp with ⟨hp, _⟩ | hp
    · subst hp; simp [nbits]
    · obtain ⟨t, ht, _⟩ := dq_odd hp h
      have hp0 : p.natAbs ≠ 0 := by omega
      refine nbits_pb hp0 ?_
      rw [PB_is]
      rw [ht, Int.natAbs_mul, Int.natAbs_natCast] at hz
      have h5 := Nat.two_pow_pos t
      have h6 : p.natAbs ≤ p.natAbs * 2 ^ t := Nat.le_mul_of_pos_right _ h5
      have h7 : 2 ^ n % 2 = 0 := by
        obtain ⟨u, hu⟩ : ∃ u, n = u + 1 := ⟨n - 1, by omega⟩
        rw [hu, Nat.pow_succ, Nat.mul_mod_left]
      have h8 : p.natAbs % 2 = 1 := by omega
      omega
theorem dyf_top {m e : Int} {x : Rat} {L H : Nat} (h : DyF m e x L H) (h0 : m ≠ 0) : e + (nbits m.natAbs : Int) ≤ H := by
  have h1 := h.2.1.2
  have h2 := h.2.1.1
  obtain ⟨a1, a2, _⟩ := nbits_spec (n := m.natAbs) (by omega)
  rw [PB_is] at h1
  have h3 : 2 ^ (nbits m.natAbs - 1) * 2 ^ (e + (L : Int)).toNat < 2 ^ (H + L) := Nat.lt_of_le_of_lt (Nat.mul_le_mul_right _ a2) h1
  rw [← Nat.pow_add] at h3
  have := (Nat.pow_lt_pow_iff_right (by decide : 1 < 2)).1 h3
  omega

end Go.Proofs.YtnkmcikjeicpfaaDoor
