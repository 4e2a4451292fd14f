/-
  What the statement stands on.
-/
import Derived.Test.YtcdmojefheipoaaGreatDoorM22
namespace Go.Proofs.YtcdmojefheipoaaGreatDoor
open Go.RowKit
set_option maxRecDepth 100000 in
set_option maxHeartbeats 8000000 in
theorem dnear_any {va : Value} {a : Rat} {w : World} (hT : Tab w) (ha : IsRat w va a) {k : Nat} (hak : RB a k) (n : Nat) (h2 : 2 ≤ n) (h4 : n ≤ 4096) (up : Bool) (h0 : a ≠ 0) (t : Nat) (ht : TailIs a.den t) (d : Nat) (hd : a.den / 2 ^ t = d) (hk : 96 * k + n + 4 ≤ 16384) (y : Rat) (hy : nearV a.num d t n up = y) :
    Calls Tryz.prog 95 #[va, .int .i64 n, .bool up] w fun ev w' => (∃ u, ev = .returned (.tuple #[u, .int .i64 0]) ∧ IsD w' u y (n + 64 * k) (32 * k + 3)) ∧ Below w.heap.size w w' := by
  obtain ⟨b, p, l, K, q, j, J, rfl, hb, nn, dd⟩ := ha
  have hmax : a.num.natAbs < maxN ∧ a.den < maxN := rb_max hak (by omega)
  have hn0 : a.num ≠ 0 := num_ne h0
  obtain ⟨s, hs⟩ : ∃ s, a.num.sign = s := ⟨_, rfl⟩
  have hs1 : (s == 0) = false := by rw [← hs]; simpa using fun h => hn0 (Int.sign_eq_zero_iff_zero.1 h)
  have hden0 := a.den_nz
  have htl := tail_le ht hden0 (nb_pb hak.2 (Nat.le_refl _))
  obtain ⟨dm, hdm⟩ : ∃ m : Nat, d = 2 * m + 1 ∧ a.den = 2 ^ t * d := by
    rcases ht with ⟨h, _⟩ | ⟨m, hm⟩
    · exact absurd h hden0
    · refine ⟨m, ?_, ?_⟩
      · rw [← hd, hm, Nat.mul_div_cancel_left _ (Nat.two_pow_pos t)]
      · rw [← hd, hm, Nat.mul_div_cancel_left _ (Nat.two_pow_pos t)]
  have hd0 : d ≠ 0 := by omega
  have hdle : d ≤ a.den := by rw [hdm.2]; exact Nat.le_mul_of_pos_left _ (Nat.two_pow_pos t)
  have hdI : (a.den : Int) / 2 ^ t = (d : Int) := by
    rw [← hd]; simp
  obtain ⟨P, hP⟩ : ∃ P, nbits a.num.natAbs = P := ⟨_, rfl⟩
  obtain ⟨Q, hQ⟩ : ∃ Q, nbits d = Q := ⟨_, rfl⟩
  have hPl : P ≤ 32 * k := by rw [← hP]; exact nbits_pb (by omega) (nb_pb hak.1 (Nat.le_refl _))
  have hQl : Q ≤ 32 * k := by rw [← hQ]; exact nbits_pb hd0 (nb_pb (Nat.lt_of_le_of_lt hdle hak.2) (Nat.le_refl _))
  obtain ⟨_, _, hP3⟩ := nbits_spec (n := a.num.natAbs) (by omega)
  obtain ⟨hQ1, hQ2, _⟩ := nbits_spec hd0
  rw [hP] at hP3
  rw [hQ] at hQ1 hQ2
  have hw1 : IntKind.i64.wrap ((n : Int) + (Q : Int)) = (n : Int) + (Q : Int) := wrap_int (by omega) (by omega)
  unfold nearV at hy
  rw [hP, hQ] at hy
  have HN := Lib.hid (And.intro (show (2 : Int) ≤ (n : Int) by omega) (show (n : Int) ≤ 4096 by omega))
  have HD := Lib.hid (And.intro hT (And.intro hmax (And.intro hs (And.intro hdI (And.intro hP (And.intro hQ (And.intro hden0 (And.intro ht (show t ≤ 9223372036854775807 by omega)))))))))
  have HM := Lib.hid (show d < maxN by omega)
  by_cases hsh : P ≤ n + Q
  · obtain ⟨g, hg⟩ : ∃ g : Nat, (n : Int) + (Q : Int) - (P : Int) = (g : Int) := ⟨n + Q - P, by omega⟩
    rw [hg, show ((g : Int)).toNat = g from rfl, show (-(g : Int)).toNat = 0 by omega, Nat.pow_zero] at hy
    have hN : a.num * 2 ^ g = a.num * ((2 ^ g : Nat) : Int) := by simp
    obtain ⟨N, hNN⟩ : ∃ N, a.num * ((2 ^ g : Nat) : Int) = N := ⟨_, rfl⟩
    rw [hNN] at hy hN
    rw [show (d : Int) * ((1 : Nat) : Int) = (d : Int) by simp] at hy
    have hNa : N.natAbs = a.num.natAbs * 2 ^ g := by rw [← hNN, Int.natAbs_mul, Int.natAbs_natCast]
    have hNb : N.natAbs < d * 2 ^ (n + 1) := by
      rw [hNa]
      calc a.num.natAbs * 2 ^ g < 2 ^ P * 2 ^ g := Nat.mul_lt_mul_of_pos_right hP3 (Nat.two_pow_pos g)
        _ = 2 ^ (Q - 1) * 2 ^ (n + 1) := by rw [← Nat.pow_add, ← Nat.pow_add]; congr 1; omega
        _ ≤ d * 2 ^ (n + 1) := Nat.mul_le_mul_right _ hQ2
    obtain ⟨z, hz⟩ : ∃ z, divI N (d : Int) up = z := ⟨_, rfl⟩
    have hzb : z.natAbs < PB (n + 2) := by
      have h1 : z.natAbs ≤ 2 ^ (n + 1) := by rw [← hz]; exact divI_bits (by omega) up hNb
      rw [PB_is]; exact Nat.lt_of_le_of_lt h1 (Nat.pow_lt_pow_right (by decide) (by omega))
    have hNm : N.natAbs < maxN := by
      refine pb_max (n := P + g) ?_ (by omega)
      rw [hNa, PB_is, Nat.pow_add]
      exact Nat.mul_lt_mul_of_pos_right hP3 (Nat.two_pow_pos g)
    obtain ⟨f, hf⟩ : ∃ f : Int, -(g : Int) - (t : Int) = f := ⟨_, rfl⟩
    have hw2 : IntKind.i64.wrap ((n : Int) + (Q : Int) - (P : Int)) = (g : Int) := by rw [wrap_int (by omega) (by omega), hg]
    have hw3 : IntKind.i64.wrap (-(g : Int)) = -(g : Int) := wrap_int (by omega) (by omega)
    have hw4 : IntKind.i64.wrap (-(g : Int) - (t : Int)) = f := by rw [wrap_int (by omega) (by omega), hf]
    have hzf : ZF z f (n + 64 * k) (32 * k + 2) := ZF.of (n := n + 2) hzb (by omega) (by omega)
    rw [hz, hf] at hy
    have HG := Lib.hid (And.intro (show g ≤ 100000 by omega) (And.intro hN (And.intro (show a.num.natAbs * 2 ^ g < maxN by rw [← hNa]; exact hNm) (And.intro hNm (And.intro hz (And.intro (show (0 : Int) < (d : Int) by omega) (pb_max hzb (by omega))))))))
    have HY := Lib.hid (And.intro hzf (And.intro hy (And.intro (show 32 * k + 2 + 1 + (n + 64 * k) ≤ 16384 by omega) (And.intro h2 h4))))
    clear hN hNN hNa hNb hNm hz hzb hzf hy hf hg hT hak h2 h4 h0 ht hd hk hmax hn0 hs hden0 htl hdm hd0 hdle hdI hP hQ hPl hQl hP3 hQ1 hQ2 hsh
    have S := ((St.start w).alloc 34 [.bool b, .slice p l K, .slice q j J] (w.heap.size)).alloc 27 [.bool false, .slice none 0 0, .int .i64 0] (w.heap.size + 1)
    try simp only [List.cons_append, List.nil_append] at S
    replace nn := nn.hold S.hold; replace dd := dd.hold S.hold
    have c0_ := S.c3 0 rfl; have c1_ := S.c3 1 rfl
    go_enter Tryz.func95, Tryz.ntmps95
    go_wp2_with fail; clear c0_ c1_
    refine S.cl (bits_in n _ HN.out.1 HN.out.2) ?_; clear S; rintro e w1 rfl S H
    replace nn := nn.hold H; replace dd := dd.hold H
    clear H; have c0_ := S.c3 0 rfl; have c1_ := S.c3 1 rfl; go_wp2_with fail; clear c0_ c1_
    refine S.cl (rsign_any ⟨b, p, l, K, q, j, J, rfl, hb, nn, dd⟩ HD.out.2.1.1 HD.out.2.2.1) ?_; clear S; rintro e w2 rfl S H
    replace nn := nn.hold H; replace dd := dd.hold H
    clear H; have c0_ := S.c3 0 rfl; have c1_ := S.c3 1 rfl; go_wp2_with fail; clear c0_ c1_
    refine S.cl (tail_nat' dd HD.out.2.1.2 (HD.out.1.below S.below)) ?_; clear S; rintro e w3 ⟨t', rfl, ht'⟩ S H
    replace nn := nn.hold H; replace dd := dd.hold H
    clear H; have c0_ := S.c3 0 rfl; have c1_ := S.c3 1 rfl
    obtain rfl : t' = t := tail_uniq HD.out.2.2.2.2.2.2.1 ht'.out HD.out.2.2.2.2.2.2.2.1
    clear ht'; go_wp2_with fail; clear c0_ c1_
    refine S.cl (wnat_any dd HD.out.2.1.2 (a.den : Int) rfl) ?_; clear S; rintro e w4 ⟨_, rfl, pe, le, Ke, rfl, ne⟩ S H
    replace nn := nn.hold H; replace dd := dd.hold H
    clear H; have c0_ := S.c3 0 rfl; have c1_ := S.c3 1 rfl; go_wp2_with fail; clear c0_ c1_
    refine S.cl (wright_any (HD.out.1.below S.below) ⟨_, _, _, rfl, ne⟩ HD.out.2.1.2 t' HD.out.2.2.2.2.2.2.2.2 (d : Int) HD.out.2.2.2.1) ?_; clear S; rintro e w5 ⟨_, rfl, pd, ld, Kd, rfl, nd⟩ S H
    refine iv3 H nn dd ne ?_; clear nn dd ne; intro nn dd ne
    clear H; have c0_ := S.c3 0 rfl; have c1_ := S.c3 1 rfl
    have H := S.hnew 25 [.bool (negB (d : Int)), .slice pd ld Kd]
    replace S := S.al 25 [.bool (negB (d : Int)), .slice pd ld Kd] (w5.heap.size)
    refine iv4 H nn dd ne nd ?_; clear nn dd ne nd; intro nn dd ne nd
    clear H; clear c0_ c1_; have c0_ := S.c3 0 rfl; have c1_ := S.c3 1 rfl; have c2_ := S.c2 2 rfl
    go_upto_region 9 with fail
    clear c0_ c1_ c2_
    replace nn := nn.hold (Hold.drew _); replace dd := dd.hold (Hold.drew _); replace ne := ne.hold (Hold.drew _); replace nd := nd.hold (Hold.drew _)
    replace S := S.drew
    refine wp_region_held_drew (S := fun W => W.cell? ⟨w.heap.size, 1, none⟩ = some (.slice p l K) ∧ W.cell? ⟨w5.heap.size, 1, none⟩ = some (.slice pd ld Kd)) (by kernel_rfl) ⟨(S.c 0 1 rfl rfl), (S.c 2 1 rfl rfl)⟩ (fun hS => ?_)
    refine tk 0 hS ?_
    refine tk 1 hS ?_
    refine tk 2 hS ?_
    refine tk 5 hS ?_
    refine tk 6 hS ?_
    refine tk 7 hS ?_
    refine rd 3 fun KK hKK => ?_
    go_simp
    refine (S.call (bits_nat nd HM.out HD.out.2.2.2.2.2.1)).mono ?_; clear S; rintro e w6 ⟨rfl, S, H⟩; refine iv4 H nn dd ne nd ?_; clear nn dd ne nd H; intro nn dd ne nd
    go_wp2_with fail
    refine ho hKK ⟨(S.c 0 1 rfl rfl), (S.c 2 1 rfl rfl)⟩ fun hS => ?_
    clear hKK KK
    refine tk 4 hS ?_
    refine rd 8 fun KK hKK => ?_
    go_simp
    refine (S.call (bits_nat nn HD.out.2.1.1 HD.out.2.2.2.2.1)).mono ?_; clear S; rintro e w7 ⟨rfl, S, H⟩; refine iv4 H nn dd ne nd ?_; clear nn dd ne nd H; intro nn dd ne nd
    go_wp2_with fail
    refine ho hKK ⟨(S.c 0 1 rfl rfl), (S.c 2 1 rfl rfl)⟩ fun hS => ?_
    clear hKK KK
    refine tk 9 hS ?_
    refine rd 10 fun KK hKK => ?_
    go_simp
    refine ho hKK ⟨(S.c 0 1 rfl rfl), (S.c 2 1 rfl rfl)⟩ fun hS => ?_
    clear hKK KK
    refine wpAnyH_done (by kernel_rfl) ?_ _
    have c0_ := S.c3 0 rfl; have c1_ := S.c3 1 rfl; have c2_ := S.c2 2 rfl; go_wp2_with fail; clear c0_ c1_ c2_
    refine S.cl (divided_pos ⟨_, _, _, by rw [hb.out], nn⟩ ⟨_, _, _, rfl, nd⟩ HD.out.2.1.1 HM.out g HG.out.1 N (d : Int) HG.out.2.1 rfl HG.out.2.2.1 HG.out.2.2.2.1 HM.out HG.out.2.2.2.2.2.1 up z HG.out.2.2.2.2.1 HG.out.2.2.2.2.2.2) ?_; clear S; rintro e w8 ⟨_, rfl, pz, lz, Kz, rfl, nz⟩ S H
    refine iv4 H nn dd ne nd ?_; clear nn dd ne nd; intro nn dd ne nd
    clear H; have c0_ := S.c3 0 rfl; have c1_ := S.c3 1 rfl; have c2_ := S.c2 2 rfl
    have H := S.hnew 25 [.bool (negB z), .slice pz lz Kz]
    replace S := S.al 25 [.bool (negB z), .slice pz lz Kz] (w8.heap.size)
    refine iv5 H nn dd ne nd nz ?_; clear nn dd ne nd nz; intro nn dd ne nd nz
    clear H; clear c0_ c1_ c2_; have c0_ := S.c3 0 rfl; have c1_ := S.c3 1 rfl; have c2_ := S.c2 2 rfl; have c3_ := S.c2 3 rfl; go_wp2_with fail; clear c0_ c1_ c2_ c3_
    refine S.cl (dtimes_any (HD.out.1.below S.below) ⟨_, _, _, rfl, nz⟩ HY.out.1 (by have := HY.out.2.2.1; omega) (dq z f) rfl) ?_; clear S; rintro e w9 ⟨_, rfl, b4, p4, l4, K4, m4, e4, rfl, h4, n4, d4⟩ S H
    refine iv5 H nn dd ne nd nz ?_; clear nn dd ne nd nz; intro nn dd ne nd nz
    clear H; have c0_ := S.c3 0 rfl; have c1_ := S.c3 1 rfl; have c2_ := S.c2 2 rfl; have c3_ := S.c2 3 rfl
    have H := S.hnew 27 [.bool b4, .slice p4 l4 K4, .int .i64 e4]
    replace S := S.al 27 [.bool b4, .slice p4 l4 K4, .int .i64 e4] (w9.heap.size)
    refine iv6 H nn dd ne nd nz n4 ?_; clear nn dd ne nd nz n4; intro nn dd ne nd nz n4
    clear H; clear c0_ c1_ c2_ c3_; have c0_ := S.c3 0 rfl; have c1_ := S.c3 1 rfl; have c2_ := S.c2 2 rfl; have c3_ := S.c2 3 rfl; have c4_ := S.c3 4 rfl; go_wp2_with fail; clear c0_ c1_ c2_ c3_ c4_
    refine S.cl (dround_any (HD.out.1.below S.below) h4 n4 d4 HY.out.2.2.1 n HY.out.2.2.2.1 HY.out.2.2.2.2 up y (by rw [rnd_canon d4.out.1 d4.out.2.2]; exact HY.out.2.1)) ?_; clear S; rintro e w10 ⟨_, rfl, b3, p3, l3, K3, m3, e3, rfl, h3, n3, d3⟩ S H
    refine iv6 H nn dd ne nd nz n4 ?_; clear nn dd ne nd nz n4; intro nn dd ne nd nz n4
    clear H; have c0_ := S.c3 0 rfl; have c1_ := S.c3 1 rfl; have c2_ := S.c2 2 rfl; have c3_ := S.c2 3 rfl; have c4_ := S.c3 4 rfl
    obtain ⟨f1_0, f1_1, f1_2⟩ := S.f3 1 rfl
    have HP := S.put3 1 (.bool b3) (.slice p3 l3 K3) (.int .i64 e3) rfl rfl; have H := HP.2; replace S := HP.1; clear HP
    refine iw7 H nn dd ne nd nz n4 n3 ?_; clear nn dd ne nd nz n4 n3; intro nn dd ne nd nz n4 n3
    clear H; go_wp2_with fail; obtain ⟨d1_0, d1_1, d1_2⟩ := S.c3 1 rfl
    exact bodyPost_ret (v := .tuple #[.agg #[.bool b3, .slice p3 l3 K3, .int .i64 e3], .int .i64 0]) (by simp [results, Tryz.f95, go_sem, d1_0, d1_1, d1_2]) rfl (⟨⟨_, rfl, b3, p3, l3, K3, m3, e3, rfl, h3, n3, d3⟩, S.below⟩)
  · obtain ⟨g, hg⟩ : ∃ g : Nat, (n : Int) + (Q : Int) - (P : Int) = -(g : Int) ∧ 1 ≤ g := ⟨P - (n + Q), by omega, by omega⟩
    obtain ⟨hg, hg1⟩ := hg
    rw [hg, show (-(g : Int)).toNat = 0 by omega, show (-(-(g : Int))).toNat = g by omega, Nat.pow_zero] at hy
    have hN : (d : Int) * 2 ^ g = ((d * 2 ^ g : Nat) : Int) := by simp
    obtain ⟨D, hDD⟩ : ∃ D, d * 2 ^ g = D := ⟨_, rfl⟩
    rw [show a.num * ((1 : Nat) : Int) = a.num by simp, show (d : Int) * ((2 ^ g : Nat) : Int) = ((d * 2 ^ g : Nat) : Int) by simp, hDD] at hy
    rw [hDD] at hN
    have hD0 : 0 < D := by rw [← hDD]; exact Nat.mul_pos (by omega) (Nat.two_pow_pos g)
    have hNb : a.num.natAbs < D * 2 ^ (n + 1) := by
      rw [← hDD]
      calc a.num.natAbs < 2 ^ P := hP3
        _ = 2 ^ (Q - 1) * 2 ^ g * 2 ^ (n + 1) := by rw [← Nat.pow_add, ← Nat.pow_add]; congr 1; omega
        _ ≤ d * 2 ^ g * 2 ^ (n + 1) := Nat.mul_le_mul_right _ (Nat.mul_le_mul_right _ hQ2)
    obtain ⟨z, hz⟩ : ∃ z, divI a.num (D : Int) up = z := ⟨_, rfl⟩
    have hzb : z.natAbs < PB (n + 2) := by
      have h1 : z.natAbs ≤ 2 ^ (n + 1) := by rw [← hz]; exact divI_bits hD0 up hNb
      rw [PB_is]; exact Nat.lt_of_le_of_lt h1 (Nat.pow_lt_pow_right (by decide) (by omega))
    have hDm : D < maxN := by
      refine pb_max (n := Q + g) ?_ (by omega)
      have hQ3 := (nbits_spec hd0).2.2
      rw [hQ] at hQ3
      rw [← hDD, PB_is, Nat.pow_add]
      exact Nat.mul_lt_mul_of_pos_right hQ3 (Nat.two_pow_pos g)
    obtain ⟨f, hf⟩ : ∃ f : Int, (g : Int) - (t : Int) = f := ⟨_, rfl⟩
    have hw2 : IntKind.i64.wrap ((n : Int) + (Q : Int) - (P : Int)) = -(g : Int) := by rw [wrap_int (by omega) (by omega), hg]
    have hw3 : IntKind.i64.wrap (g : Int) = (g : Int) := wrap_int (by omega) (by omega)
    have hw4 : IntKind.i64.wrap ((g : Int) - (t : Int)) = f := by rw [wrap_int (by omega) (by omega), hf]
    rw [show -(-(g : Int)) = (g : Int) by omega] at hy
    have hzf : ZF z f (n + 64 * k) (32 * k + 2) := ZF.of (n := n + 2) hzb (by omega) (by omega)
    rw [hz, hf] at hy
    have HG := Lib.hid (And.intro (show g ≤ 100000 by omega) (And.intro hN (And.intro (show d * 2 ^ g < maxN by rw [hDD]; exact hDm) (And.intro (show ((D : Nat) : Int).natAbs < maxN from hDm) (And.intro hz (And.intro (show (0 : Int) < (D : Int) by omega) (And.intro (pb_max hzb (by omega)) hg1)))))))
    have HY := Lib.hid (And.intro hzf (And.intro hy (And.intro (show 32 * k + 2 + 1 + (n + 64 * k) ≤ 16384 by omega) (And.intro h2 h4))))
    clear hN hDD hD0 hNb hDm hg1 hz hzb hzf hy hf hg hT hak h2 h4 h0 ht hd hk hmax hn0 hs hden0 htl hdm hd0 hdle hdI hP hQ hPl hQl hP3 hQ1 hQ2 hsh
    have S := ((St.start w).alloc 34 [.bool b, .slice p l K, .slice q j J] (w.heap.size)).alloc 27 [.bool false, .slice none 0 0, .int .i64 0] (w.heap.size + 1)
    try simp only [List.cons_append, List.nil_append] at S
    replace nn := nn.hold S.hold; replace dd := dd.hold S.hold
    have c0_ := S.c3 0 rfl; have c1_ := S.c3 1 rfl
    go_enter Tryz.func95, Tryz.ntmps95
    go_wp2_with fail; clear c0_ c1_
    refine S.cl (bits_in n _ HN.out.1 HN.out.2) ?_; clear S; rintro e w1 rfl S H
    replace nn := nn.hold H; replace dd := dd.hold H
    clear H; have c0_ := S.c3 0 rfl; have c1_ := S.c3 1 rfl; go_wp2_with fail; clear c0_ c1_
    refine S.cl (rsign_any ⟨b, p, l, K, q, j, J, rfl, hb, nn, dd⟩ HD.out.2.1.1 HD.out.2.2.1) ?_; clear S; rintro e w2 rfl S H
    replace nn := nn.hold H; replace dd := dd.hold H
    clear H; have c0_ := S.c3 0 rfl; have c1_ := S.c3 1 rfl; go_wp2_with fail; clear c0_ c1_
    refine S.cl (tail_nat' dd HD.out.2.1.2 (HD.out.1.below S.below)) ?_; clear S; rintro e w3 ⟨t', rfl, ht'⟩ S H
    replace nn := nn.hold H; replace dd := dd.hold H
    clear H; have c0_ := S.c3 0 rfl; have c1_ := S.c3 1 rfl
    obtain rfl : t' = t := tail_uniq HD.out.2.2.2.2.2.2.1 ht'.out HD.out.2.2.2.2.2.2.2.1
    clear ht'; go_wp2_with fail; clear c0_ c1_
    refine S.cl (wnat_any dd HD.out.2.1.2 (a.den : Int) rfl) ?_; clear S; rintro e w4 ⟨_, rfl, pe, le, Ke, rfl, ne⟩ S H
    replace nn := nn.hold H; replace dd := dd.hold H
    clear H; have c0_ := S.c3 0 rfl; have c1_ := S.c3 1 rfl; go_wp2_with fail; clear c0_ c1_
    refine S.cl (wright_any (HD.out.1.below S.below) ⟨_, _, _, rfl, ne⟩ HD.out.2.1.2 t' HD.out.2.2.2.2.2.2.2.2 (d : Int) HD.out.2.2.2.1) ?_; clear S; rintro e w5 ⟨_, rfl, pd, ld, Kd, rfl, nd⟩ S H
    refine iv3 H nn dd ne ?_; clear nn dd ne; intro nn dd ne
    clear H; have c0_ := S.c3 0 rfl; have c1_ := S.c3 1 rfl
    have H := S.hnew 25 [.bool (negB (d : Int)), .slice pd ld Kd]
    replace S := S.al 25 [.bool (negB (d : Int)), .slice pd ld Kd] (w5.heap.size)
    refine iv4 H nn dd ne nd ?_; clear nn dd ne nd; intro nn dd ne nd
    clear H; clear c0_ c1_; have c0_ := S.c3 0 rfl; have c1_ := S.c3 1 rfl; have c2_ := S.c2 2 rfl
    go_upto_region 9 with fail
    clear c0_ c1_ c2_
    replace nn := nn.hold (Hold.drew _); replace dd := dd.hold (Hold.drew _); replace ne := ne.hold (Hold.drew _); replace nd := nd.hold (Hold.drew _)
    replace S := S.drew
    refine wp_region_held_drew (S := fun W => W.cell? ⟨w.heap.size, 1, none⟩ = some (.slice p l K) ∧ W.cell? ⟨w5.heap.size, 1, none⟩ = some (.slice pd ld Kd)) (by kernel_rfl) ⟨(S.c 0 1 rfl rfl), (S.c 2 1 rfl rfl)⟩ (fun hS => ?_)
    refine tk 0 hS ?_
    refine tk 1 hS ?_
    refine tk 2 hS ?_
    refine tk 5 hS ?_
    refine tk 6 hS ?_
    refine tk 7 hS ?_
    refine rd 3 fun KK hKK => ?_
    go_simp
    refine (S.call (bits_nat nd HM.out HD.out.2.2.2.2.2.1)).mono ?_; clear S; rintro e w6 ⟨rfl, S, H⟩; refine iv4 H nn dd ne nd ?_; clear nn dd ne nd H; intro nn dd ne nd
    go_wp2_with fail
    refine ho hKK ⟨(S.c 0 1 rfl rfl), (S.c 2 1 rfl rfl)⟩ fun hS => ?_
    clear hKK KK
    refine tk 4 hS ?_
    refine rd 8 fun KK hKK => ?_
    go_simp
    refine (S.call (bits_nat nn HD.out.2.1.1 HD.out.2.2.2.2.1)).mono ?_; clear S; rintro e w7 ⟨rfl, S, H⟩; refine iv4 H nn dd ne nd ?_; clear nn dd ne nd H; intro nn dd ne nd
    go_wp2_with fail
    refine ho hKK ⟨(S.c 0 1 rfl rfl), (S.c 2 1 rfl rfl)⟩ fun hS => ?_
    clear hKK KK
    refine tk 9 hS ?_
    refine rd 10 fun KK hKK => ?_
    go_simp
    refine ho hKK ⟨(S.c 0 1 rfl rfl), (S.c 2 1 rfl rfl)⟩ fun hS => ?_
    clear hKK KK
    refine wpAnyH_done (by kernel_rfl) ?_ _
    have c0_ := S.c3 0 rfl; have c1_ := S.c3 1 rfl; have c2_ := S.c2 2 rfl; go_wp2_with fail; clear c0_ c1_ c2_
    refine S.cl (divided_neg ⟨_, _, _, by rw [hb.out], nn⟩ ⟨_, _, _, rfl, nd⟩ HD.out.2.1.1 HM.out g HG.out.1 HG.out.2.2.2.2.2.2.2 a.num (D : Int) rfl HG.out.2.1 HG.out.2.2.1 HD.out.2.1.1 HG.out.2.2.2.1 HG.out.2.2.2.2.2.1 up z HG.out.2.2.2.2.1 HG.out.2.2.2.2.2.2.1) ?_; clear S; rintro e w8 ⟨_, rfl, pz, lz, Kz, rfl, nz⟩ S H
    refine iv4 H nn dd ne nd ?_; clear nn dd ne nd; intro nn dd ne nd
    clear H; have c0_ := S.c3 0 rfl; have c1_ := S.c3 1 rfl; have c2_ := S.c2 2 rfl
    have H := S.hnew 25 [.bool (negB z), .slice pz lz Kz]
    replace S := S.al 25 [.bool (negB z), .slice pz lz Kz] (w8.heap.size)
    refine iv5 H nn dd ne nd nz ?_; clear nn dd ne nd nz; intro nn dd ne nd nz
    clear H; clear c0_ c1_ c2_; have c0_ := S.c3 0 rfl; have c1_ := S.c3 1 rfl; have c2_ := S.c2 2 rfl; have c3_ := S.c2 3 rfl; go_wp2_with fail; clear c0_ c1_ c2_ c3_
    refine S.cl (dtimes_any (HD.out.1.below S.below) ⟨_, _, _, rfl, nz⟩ HY.out.1 (by have := HY.out.2.2.1; omega) (dq z f) rfl) ?_; clear S; rintro e w9 ⟨_, rfl, b4, p4, l4, K4, m4, e4, rfl, h4, n4, d4⟩ S H
    refine iv5 H nn dd ne nd nz ?_; clear nn dd ne nd nz; intro nn dd ne nd nz
    clear H; have c0_ := S.c3 0 rfl; have c1_ := S.c3 1 rfl; have c2_ := S.c2 2 rfl; have c3_ := S.c2 3 rfl
    have H := S.hnew 27 [.bool b4, .slice p4 l4 K4, .int .i64 e4]
    replace S := S.al 27 [.bool b4, .slice p4 l4 K4, .int .i64 e4] (w9.heap.size)
    refine iv6 H nn dd ne nd nz n4 ?_; clear nn dd ne nd nz n4; intro nn dd ne nd nz n4
    clear H; clear c0_ c1_ c2_ c3_; have c0_ := S.c3 0 rfl; have c1_ := S.c3 1 rfl; have c2_ := S.c2 2 rfl; have c3_ := S.c2 3 rfl; have c4_ := S.c3 4 rfl; go_wp2_with fail; clear c0_ c1_ c2_ c3_ c4_
    refine S.cl (dround_any (HD.out.1.below S.below) h4 n4 d4 HY.out.2.2.1 n HY.out.2.2.2.1 HY.out.2.2.2.2 up y (by rw [rnd_canon d4.out.1 d4.out.2.2]; exact HY.out.2.1)) ?_; clear S; rintro e w10 ⟨_, rfl, b3, p3, l3, K3, m3, e3, rfl, h3, n3, d3⟩ S H
    refine iv6 H nn dd ne nd nz n4 ?_; clear nn dd ne nd nz n4; intro nn dd ne nd nz n4
    clear H; have c0_ := S.c3 0 rfl; have c1_ := S.c3 1 rfl; have c2_ := S.c2 2 rfl; have c3_ := S.c2 3 rfl; have c4_ := S.c3 4 rfl
    obtain ⟨f1_0, f1_1, f1_2⟩ := S.f3 1 rfl
    have HP := S.put3 1 (.bool b3) (.slice p3 l3 K3) (.int .i64 e3) rfl rfl; have H := HP.2; replace S := HP.1; clear HP
    refine iw7 H nn dd ne nd nz n4 n3 ?_; clear nn dd ne nd nz n4 n3; intro nn dd ne nd nz n4 n3
    clear H; go_wp2_with fail; obtain ⟨d1_0, d1_1, d1_2⟩ := S.c3 1 rfl
    exact bodyPost_ret (v := .tuple #[.agg #[.bool b3, .slice p3 l3 K3, .int .i64 e3], .int .i64 0]) (by simp [results, Tryz.f95, go_sem, d1_0, d1_1, d1_2]) rfl (⟨⟨_, rfl, b3, p3, l3, K3, m3, e3, rfl, h3, n3, d3⟩, S.below⟩)
def IsSp (w : World) (v : Value) (x y : Rat) (L H : Nat) : Prop :=
  ∃ b p l K m e c q k J n f, v = .agg #[.bool b, .slice p l K, .int .i64 e, .bool c, .slice q k J, .int .i64 f] ∧ Hid (negB m = b) ∧ IsNat w (.slice p l K) m.natAbs ∧ Hid (DyF m e x L H) ∧ Hid (negB n = c) ∧ IsNat w (.slice q k J) n.natAbs ∧ Hid (DyF n f y L H)
theorem IsSp.mono {w : World} {v : Value} {x y : Rat} {L H L' H' : Nat} (h : IsSp w v x y L H) (hL : L ≤ L') (hH : H ≤ H') : IsSp w v x y L' H' := by
  obtain ⟨b, p, l, K, m, e, c, q, k, J, n, f, h1, h2, h3, h4, h5, h6, h7⟩ := h
  exact ⟨b, p, l, K, m, e, c, q, k, J, n, f, h1, h2, h3, h4.out.mono hL hH, h5, h6, h7.out.mono hL hH⟩
theorem IsSp.hold {w w' : World} {v : Value} {x y : Rat} {L H : Nat} (h : Hold w w') : IsSp w v x y L H → IsSp w' v x y L H
  | ⟨b, p, l, K, m, e, c, q, k, J, n, f, h1, h2, h3, h4, h5, h6, h7⟩ => ⟨b, p, l, K, m, e, c, q, k, J, n, f, h1, h2, h3.hold h, h4, h5, h6.hold h, h7⟩
instance hdI10 {w w' : World} {v : Value} {x y : Rat} {L H : Nat} : Hd w w' (IsSp w v x y L H) (IsSp w' v x y L H) := ⟨IsSp.hold⟩
set_option maxRecDepth 100000 in
set_option maxHeartbeats 2000000 in
theorem scopied_any {va : Value} {x : Rat} {w : World} {L H : Nat} (ha : IsD w va x L H) (hk : H + L ≤ 16384) :
    Calls Tryz.prog 85 #[va] w fun e w' => (∃ u, e = .returned u ∧ IsD w' u x L H) ∧ Below w.heap.size w w' := by
  obtain ⟨b, p, l, K, m, f, rfl, hb, nm, hm⟩ := ha
  have HK := Lib.hid hk
  clear hk
  have S := ((St.start w).alloc 27 [.bool b, .slice p l K, .int .i64 f] (w.heap.size)).alloc 27 [.bool false, .slice none 0 0, .int .i64 0] (w.heap.size + 1)
  try simp only [List.cons_append, List.nil_append] at S
  replace nm := nm.hold S.hold
  have c0_ := S.c3 0 rfl; have c1_ := S.c3 1 rfl
  go_enter Tryz.func85, Tryz.ntmps85
  go_upto_region 1 with fail
  clear c0_ c1_
  generalize ((w.alloc (.cells #[.bool b, .slice p l K, .int .i64 f] 27)).alloc (.cells #[.bool false, .slice none 0 0, .int .i64 0] 27)) = w1 at S nm ⊢
  have HH := (Hold.drew w1).to32
  replace nm := nm.hold32 HH
  replace S := S.drew
  refine wp_region_held_drew (S := fun W => W.cell? ⟨w.heap.size, 0, none⟩ = some (.bool b) ∧ W.cell? ⟨w.heap.size, 1, none⟩ = some (.slice p l K) ∧ W.cell? ⟨w.heap.size, 2, none⟩ = some (.int .i64 f)) (by kernel_rfl) (S.c3 0 rfl) (fun hS => ?_)
  generalize w1.drew = w2 at S nm HH hS ⊢
  refine tk 0 hS ?_
  refine tk 1 hS ?_
  refine tk 2 hS ?_
  refine tk 3 hS ?_
  refine tk 4 hS ?_
  refine tk 5 hS ?_
  refine tk 8 hS ?_
  refine tk 9 hS ?_
  refine rd 6 fun KK hKK => ?_
  go_simp; clear hS
  refine S.cl (clone_any nm (hm.out.max HK.out)) ?_; clear S; rintro e w3 ⟨_, rfl, nc⟩ S H
  replace nm := nm.hold H; replace HH := HH.trans H.to32; clear H
  obtain ⟨pc, lc, Kc, rfl⟩ := nc.form
  go_wp2_with fail
  refine ho hKK (S.c3 0 rfl) fun hS => ?_
  clear hKK KK
  refine tk 7 hS ?_
  refine tk 10 hS ?_
  refine rd 11 fun KK hKK => ?_
  obtain ⟨c0, c1, c2⟩ := S.c3 1 rfl; obtain ⟨f0, f1, f2⟩ := S.f3 1 rfl
  go_simp; clear hS c0 f0 c1 f1 c2 f2
  have HP := S.put3 1 (.bool b) (.slice pc lc Kc) (.int .i64 f) rfl rfl; have H := HP.2; replace S := HP.1; clear HP
  refine iw3 H nm nc HH ?_; clear nm nc HH H; intro nm nc HH
  refine ho hKK (S.c3 0 rfl) fun hS => ?_
  generalize (((w3.setCell ⟨w.heap.size + 1, 0, none⟩ (.bool b)).setCell ⟨w.heap.size + 1, 1, none⟩ (.slice pc lc Kc)).setCell ⟨w.heap.size + 1, 2, none⟩ (.int .i64 f)) = w4 at S nm nc HH hS ⊢
  clear hKK KK
  refine wpAnyH_done (by kernel_rfl) ?_ _
  clear hS HH; have c0_ := S.c3 0 rfl; have c1_ := S.c3 1 rfl; go_wp2_with fail; obtain ⟨d1_0, d1_1, d1_2⟩ := S.c3 1 rfl
  exact bodyPost_ret (v := .agg #[.bool b, .slice pc lc Kc, .int .i64 f]) (by simp [results, Tryz.f85, go_sem, d1_0, d1_1, d1_2]) rfl (⟨⟨_, rfl, b, pc, lc, Kc, m, f, rfl, hb, nc, hm⟩, S.below⟩)
set_option maxRecDepth 100000 in
set_option maxHeartbeats 2000000 in
theorem spoint_any {va : Value} {x : Rat} {w : World} {L H : Nat} (ha : IsD w va x L H) (hk : H + L ≤ 16384) :
    Calls Tryz.prog 31 #[va] w fun e w' => (∃ u, e = .returned u ∧ IsSp w' u x x L H) ∧ Below w.heap.size w w' := by
  obtain ⟨b1, p1, l1, K1, m1, e1, rfl, h1, n1, d1⟩ := ha
  have HK := Lib.hid hk
  clear hk
  have S := ((St.start w).alloc 27 [.bool b1, .slice p1 l1 K1, .int .i64 e1] (w.heap.size)).alloc 29 [.bool false, .slice none 0 0, .int .i64 0, .bool false, .slice none 0 0, .int .i64 0] (w.heap.size + 1)
  try simp only [List.cons_append, List.nil_append] at S
  replace n1 := n1.hold S.hold
  have c0_ := S.c3 0 rfl; have c1_ := S.c6 1 rfl
  go_enter Tryz.func31, Tryz.ntmps31
  go_upto_region 1 with fail
  clear c0_ c1_
  generalize ((w.alloc (.cells #[.bool b1, .slice p1 l1 K1, .int .i64 e1] 27)).alloc (.cells #[.bool false, .slice none 0 0, .int .i64 0, .bool false, .slice none 0 0, .int .i64 0] 29)) = w1 at S n1 ⊢
  have HH := (Hold.drew w1).to32
  replace n1 := n1.hold32 HH
  replace S := S.drew
  refine wp_region_held_drew (S := fun W => W.cell? ⟨w.heap.size, 0, none⟩ = some (.bool b1) ∧ W.cell? ⟨w.heap.size, 1, none⟩ = some (.slice p1 l1 K1) ∧ W.cell? ⟨w.heap.size, 2, none⟩ = some (.int .i64 e1)) (by kernel_rfl) (S.c3 0 rfl) (fun hS => ?_)
  generalize w1.drew = w2 at S n1 HH hS ⊢
  refine tk 0 hS ?_
  refine tk 2 hS ?_
  refine rd 1 fun KK hKK => ?_
  go_simp; clear hS
  refine S.cl (scopied_any ⟨b1, p1, l1, K1, m1, e1, rfl, h1, n1, d1⟩ HK.out) ?_; clear S; rintro e w3 ⟨_, rfl, b3, p3, l3, K3, m3, e3, rfl, h3, n3, d3⟩ S H
  replace n1 := n1.hold H; replace HH := HH.trans H.to32; clear H
  go_wp2_with fail
  refine ho hKK (S.c3 0 rfl) fun hS => ?_
  clear hKK KK
  refine rd 3 fun KK hKK => ?_
  go_simp; clear hS
  refine S.cl (scopied_any ⟨b1, p1, l1, K1, m1, e1, rfl, h1, n1, d1⟩ HK.out) ?_; clear S; rintro e w4 ⟨_, rfl, b4, p4, l4, K4, m4, e4, rfl, h4, n4, d4⟩ S H
  replace n1 := n1.hold H; replace n3 := n3.hold H; replace HH := HH.trans H.to32; clear H
  go_wp2_with fail
  refine ho hKK (S.c3 0 rfl) fun hS => ?_
  clear hKK KK
  refine tk 4 hS ?_
  refine rd 5 fun KK hKK => ?_
  obtain ⟨c0, c1, c2, c3, c4, c5⟩ := S.c6 1 rfl; obtain ⟨f0, f1, f2, f3, f4, f5⟩ := S.f6 1 rfl
  go_simp; clear hS c0 f0 c1 f1 c2 f2 c3 f3 c4 f4 c5 f5
  have HP := S.put6 1 (.bool b3) (.slice p3 l3 K3) (.int .i64 e3) (.bool b4) (.slice p4 l4 K4) (.int .i64 e4) rfl rfl; have H := HP.2; replace S := HP.1; clear HP
  refine iw4 H n1 n3 n4 HH ?_; clear n1 n3 n4 HH H; intro n1 n3 n4 HH
  refine ho hKK (S.c3 0 rfl) fun hS => ?_
  generalize ((((((w4.setCell ⟨w.heap.size + 1, 0, none⟩ (.bool b3)).setCell ⟨w.heap.size + 1, 1, none⟩ (.slice p3 l3 K3)).setCell ⟨w.heap.size + 1, 2, none⟩ (.int .i64 e3)).setCell ⟨w.heap.size + 1, 3, none⟩ (.bool b4)).setCell ⟨w.heap.size + 1, 4, none⟩ (.slice p4 l4 K4)).setCell ⟨w.heap.size + 1, 5, none⟩ (.int .i64 e4)) = w5 at S n1 n3 n4 HH hS ⊢
  clear hKK KK
  refine wpAnyH_done (by kernel_rfl) ?_ _
  clear hS HH; have c0_ := S.c3 0 rfl; have c1_ := S.c6 1 rfl; go_wp2_with fail; obtain ⟨d1_0, d1_1, d1_2, d1_3, d1_4, d1_5⟩ := S.c6 1 rfl
  exact bodyPost_ret (v := .agg #[.bool b3, .slice p3 l3 K3, .int .i64 e3, .bool b4, .slice p4 l4 K4, .int .i64 e4]) (by simp [results, Tryz.f31, go_sem, d1_0, d1_1, d1_2, d1_3, d1_4, d1_5]) rfl (⟨⟨_, rfl, b3, p3, l3, K3, m3, e3, b4, p4, l4, K4, m4, e4, rfl, h3, n3, d3, h4, n4, d4⟩, S.below⟩)
set_option maxRecDepth 100000 in
set_option maxHeartbeats 2000000 in
theorem sneg_any {va : Value} {x y : Rat} {w : World} {L H : Nat} (ha : IsSp w va x y L H) (hk : H + L ≤ 16384) :
    Calls Tryz.prog 35 #[va] w fun e w' => (∃ u, e = .returned u ∧ IsSp w' u (-y) (-x) L H) ∧ Below w.heap.size w w' := by
  obtain ⟨b1, p1, l1, K1, m1, e1, b2, p2, l2, K2, m2, e2, rfl, h1, n1, d1, h2, n2, d2⟩ := ha
  have HK := Lib.hid hk
  clear hk
  have S := ((St.start w).alloc 29 [.bool b1, .slice p1 l1 K1, .int .i64 e1, .bool b2, .slice p2 l2 K2, .int .i64 e2] (w.heap.size)).alloc 29 [.bool false, .slice none 0 0, .int .i64 0, .bool false, .slice none 0 0, .int .i64 0] (w.heap.size + 1)
  try simp only [List.cons_append, List.nil_append] at S
  replace n1 := n1.hold S.hold; replace n2 := n2.hold S.hold
  have c0_ := S.c6 0 rfl; have c1_ := S.c6 1 rfl
  go_enter Tryz.func35, Tryz.ntmps35
  go_upto_region 1 with fail
  clear c0_ c1_
  generalize ((w.alloc (.cells #[.bool b1, .slice p1 l1 K1, .int .i64 e1, .bool b2, .slice p2 l2 K2, .int .i64 e2] 29)).alloc (.cells #[.bool false, .slice none 0 0, .int .i64 0, .bool false, .slice none 0 0, .int .i64 0] 29)) = w1 at S n1 n2 ⊢
  have HH := (Hold.drew w1).to32
  replace n1 := n1.hold32 HH; replace n2 := n2.hold32 HH
  replace S := S.drew
  refine wp_region_held_drew (S := fun W => W.cell? ⟨w.heap.size, 0, none⟩ = some (.bool b1) ∧ W.cell? ⟨w.heap.size, 1, none⟩ = some (.slice p1 l1 K1) ∧ W.cell? ⟨w.heap.size, 2, none⟩ = some (.int .i64 e1) ∧ W.cell? ⟨w.heap.size, 3, none⟩ = some (.bool b2) ∧ W.cell? ⟨w.heap.size, 4, none⟩ = some (.slice p2 l2 K2) ∧ W.cell? ⟨w.heap.size, 5, none⟩ = some (.int .i64 e2)) (by kernel_rfl) (S.c6 0 rfl) (fun hS => ?_)
  generalize w1.drew = w2 at S n1 n2 HH hS ⊢
  refine tk 0 hS ?_
  refine tk 1 hS ?_
  refine tk 3 hS ?_
  refine tk 4 hS ?_
  refine rd 2 fun KK hKK => ?_
  go_simp; clear hS
  refine S.cl (dneg_any ⟨b2, p2, l2, K2, m2, e2, rfl, h2, n2, d2⟩ HK.out) ?_; clear S; rintro e w3 ⟨_, rfl, b3, p3, l3, K3, m3, e3, rfl, h3, n3, d3⟩ S H
  replace n1 := n1.hold H; replace n2 := n2.hold H; replace HH := HH.trans H.to32; clear H
  go_wp2_with fail
  refine ho hKK (S.c6 0 rfl) fun hS => ?_
  clear hKK KK
  refine rd 5 fun KK hKK => ?_
  go_simp; clear hS
  refine S.cl (dneg_any ⟨b1, p1, l1, K1, m1, e1, rfl, h1, n1, d1⟩ HK.out) ?_; clear S; rintro e w4 ⟨_, rfl, b4, p4, l4, K4, m4, e4, rfl, h4, n4, d4⟩ S H
  refine iv3 H n1 n2 n3 ?_; clear n1 n2 n3; intro n1 n2 n3; replace HH := HH.trans H.to32; clear H
  go_wp2_with fail
  refine ho hKK (S.c6 0 rfl) fun hS => ?_
  clear hKK KK
  refine tk 6 hS ?_
  refine rd 7 fun KK hKK => ?_
  obtain ⟨c0, c1, c2, c3, c4, c5⟩ := S.c6 1 rfl; obtain ⟨f0, f1, f2, f3, f4, f5⟩ := S.f6 1 rfl
  go_simp; clear hS c0 f0 c1 f1 c2 f2 c3 f3 c4 f4 c5 f5
  have HP := S.put6 1 (.bool b3) (.slice p3 l3 K3) (.int .i64 e3) (.bool b4) (.slice p4 l4 K4) (.int .i64 e4) rfl rfl; have H := HP.2; replace S := HP.1; clear HP
  refine iw5 H n1 n2 n3 n4 HH ?_; clear n1 n2 n3 n4 HH H; intro n1 n2 n3 n4 HH
  refine ho hKK (S.c6 0 rfl) fun hS => ?_
  generalize ((((((w4.setCell ⟨w.heap.size + 1, 0, none⟩ (.bool b3)).setCell ⟨w.heap.size + 1, 1, none⟩ (.slice p3 l3 K3)).setCell ⟨w.heap.size + 1, 2, none⟩ (.int .i64 e3)).setCell ⟨w.heap.size + 1, 3, none⟩ (.bool b4)).setCell ⟨w.heap.size + 1, 4, none⟩ (.slice p4 l4 K4)).setCell ⟨w.heap.size + 1, 5, none⟩ (.int .i64 e4)) = w5 at S n1 n2 n3 n4 HH hS ⊢
  clear hKK KK
  refine wpAnyH_done (by kernel_rfl) ?_ _
  clear hS HH; have c0_ := S.c6 0 rfl; have c1_ := S.c6 1 rfl; go_wp2_with fail; obtain ⟨d1_0, d1_1, d1_2, d1_3, d1_4, d1_5⟩ := S.c6 1 rfl
  exact bodyPost_ret (v := .agg #[.bool b3, .slice p3 l3 K3, .int .i64 e3, .bool b4, .slice p4 l4 K4, .int .i64 e4]) (by simp [results, Tryz.f35, go_sem, d1_0, d1_1, d1_2, d1_3, d1_4, d1_5]) rfl (⟨⟨_, rfl, b3, p3, l3, K3, m3, e3, b4, p4, l4, K4, m4, e4, rfl, h3, n3, d3, h4, n4, d4⟩, S.below⟩)
set_option maxRecDepth 100000 in
set_option maxHeartbeats 2000000 in
theorem ssize_any {va : Value} {x y : Rat} {w : World} {L H : Nat} (ha : IsSp w va x y L H) (hk : H + L ≤ 16384) :
    Calls Tryz.prog 39 #[va] w fun e w' => (∃ u, e = .returned u ∧ IsD w' u (max2 x.abs y.abs) L H) ∧ Below w.heap.size w w' := by
  obtain ⟨b1, p1, l1, K1, m1, e1, b2, p2, l2, K2, m2, e2, rfl, h1, n1, d1, h2, n2, d2⟩ := ha
  have HK := Lib.hid hk
  clear hk
  have S := ((St.start w).alloc 29 [.bool b1, .slice p1 l1 K1, .int .i64 e1, .bool b2, .slice p2 l2 K2, .int .i64 e2] (w.heap.size)).alloc 27 [.bool false, .slice none 0 0, .int .i64 0] (w.heap.size + 1)
  try simp only [List.cons_append, List.nil_append] at S
  replace n1 := n1.hold S.hold; replace n2 := n2.hold S.hold
  have c0_ := S.c6 0 rfl; have c1_ := S.c3 1 rfl
  go_enter Tryz.func39, Tryz.ntmps39
  go_upto_region 1 with fail
  clear c0_ c1_
  generalize ((w.alloc (.cells #[.bool b1, .slice p1 l1 K1, .int .i64 e1, .bool b2, .slice p2 l2 K2, .int .i64 e2] 29)).alloc (.cells #[.bool false, .slice none 0 0, .int .i64 0] 27)) = w1 at S n1 n2 ⊢
  have HH := (Hold.drew w1).to32
  replace n1 := n1.hold32 HH; replace n2 := n2.hold32 HH
  replace S := S.drew
  refine wp_region_held_drew (S := fun W => W.cell? ⟨w.heap.size, 0, none⟩ = some (.bool b1) ∧ W.cell? ⟨w.heap.size, 1, none⟩ = some (.slice p1 l1 K1) ∧ W.cell? ⟨w.heap.size, 2, none⟩ = some (.int .i64 e1) ∧ W.cell? ⟨w.heap.size, 3, none⟩ = some (.bool b2) ∧ W.cell? ⟨w.heap.size, 4, none⟩ = some (.slice p2 l2 K2) ∧ W.cell? ⟨w.heap.size, 5, none⟩ = some (.int .i64 e2)) (by kernel_rfl) (S.c6 0 rfl) (fun hS => ?_)
  generalize w1.drew = w2 at S n1 n2 HH hS ⊢
  refine tk 0 hS ?_
  refine tk 1 hS ?_
  refine tk 3 hS ?_
  refine tk 4 hS ?_
  refine rd 2 fun KK hKK => ?_
  go_simp; clear hS
  refine S.cl (dabs_any ⟨b1, p1, l1, K1, m1, e1, rfl, h1, n1, d1⟩ HK.out) ?_; clear S; rintro e w3 ⟨_, rfl, b3, p3, l3, K3, m3, e3, rfl, h3, n3, d3⟩ S H
  replace n1 := n1.hold H; replace n2 := n2.hold H; replace HH := HH.trans H.to32; clear H
  go_wp2_with fail
  refine ho hKK (S.c6 0 rfl) fun hS => ?_
  clear hKK KK
  refine rd 5 fun KK hKK => ?_
  go_simp; clear hS
  refine S.cl (dabs_any ⟨b2, p2, l2, K2, m2, e2, rfl, h2, n2, d2⟩ HK.out) ?_; clear S; rintro e w4 ⟨_, rfl, b4, p4, l4, K4, m4, e4, rfl, h4, n4, d4⟩ S H
  refine iv3 H n1 n2 n3 ?_; clear n1 n2 n3; intro n1 n2 n3; replace HH := HH.trans H.to32; clear H
  go_wp2_with fail
  refine ho hKK (S.c6 0 rfl) fun hS => ?_
  clear hKK KK
  refine rd 6 fun KK hKK => ?_
  go_simp; clear hS
  refine S.cl (dmax_any ⟨b3, p3, l3, K3, m3, e3, rfl, h3, n3, d3⟩ ⟨b4, p4, l4, K4, m4, e4, rfl, h4, n4, d4⟩ HK.out) ?_; clear S; rintro e w5 ⟨_, rfl, b5, p5, l5, K5, m5, e5, rfl, h5, n5, d5⟩ S H
  refine iv4 H n1 n2 n3 n4 ?_; clear n1 n2 n3 n4; intro n1 n2 n3 n4; replace HH := HH.trans H.to32; clear H
  go_wp2_with fail
  refine ho hKK (S.c6 0 rfl) fun hS => ?_
  clear hKK KK
  refine rd 7 fun KK hKK => ?_
  obtain ⟨c0, c1, c2⟩ := S.c3 1 rfl; obtain ⟨f0, f1, f2⟩ := S.f3 1 rfl
  go_simp; clear hS c0 f0 c1 f1 c2 f2
  have HP := S.put3 1 (.bool b5) (.slice p5 l5 K5) (.int .i64 e5) rfl rfl; have H := HP.2; replace S := HP.1; clear HP
  refine iw6 H n1 n2 n3 n4 n5 HH ?_; clear n1 n2 n3 n4 n5 HH H; intro n1 n2 n3 n4 n5 HH
  refine ho hKK (S.c6 0 rfl) fun hS => ?_
  generalize (((w5.setCell ⟨w.heap.size + 1, 0, none⟩ (.bool b5)).setCell ⟨w.heap.size + 1, 1, none⟩ (.slice p5 l5 K5)).setCell ⟨w.heap.size + 1, 2, none⟩ (.int .i64 e5)) = w6 at S n1 n2 n3 n4 n5 HH hS ⊢
  clear hKK KK
  refine wpAnyH_done (by kernel_rfl) ?_ _
  clear hS HH; have c0_ := S.c6 0 rfl; have c1_ := S.c3 1 rfl; go_wp2_with fail; obtain ⟨d1_0, d1_1, d1_2⟩ := S.c3 1 rfl
  exact bodyPost_ret (v := .agg #[.bool b5, .slice p5 l5 K5, .int .i64 e5]) (by simp [results, Tryz.f39, go_sem, d1_0, d1_1, d1_2]) rfl (⟨⟨_, rfl, b5, p5, l5, K5, m5, e5, rfl, h5, n5, d5⟩, S.below⟩)
set_option maxRecDepth 100000 in
set_option maxHeartbeats 2000000 in
theorem shull_any {va vb : Value} {x y u v : Rat} {w : World} {L H : Nat} (ha : IsSp w va x y L H) (hb : IsSp w vb u v L H) (hk : H + L ≤ 16384) :
    Calls Tryz.prog 32 #[va, vb] w fun e w' => (∃ z, e = .returned z ∧ IsSp w' z (min2 x u) (max2 y v) L H) ∧ Below w.heap.size w w' := by
  obtain ⟨b1, p1, l1, K1, m1, e1, b2, p2, l2, K2, m2, e2, rfl, h1, n1, d1, h2, n2, d2⟩ := ha
  obtain ⟨b3, p3, l3, K3, m3, e3, b4, p4, l4, K4, m4, e4, rfl, h3, n3, d3, h4, n4, d4⟩ := hb
  have HK := Lib.hid hk
  clear hk
  have S := (((St.start w).alloc 29 [.bool b1, .slice p1 l1 K1, .int .i64 e1, .bool b2, .slice p2 l2 K2, .int .i64 e2] (w.heap.size)).alloc 29 [.bool b3, .slice p3 l3 K3, .int .i64 e3, .bool b4, .slice p4 l4 K4, .int .i64 e4] (w.heap.size + 1)).alloc 29 [.bool false, .slice none 0 0, .int .i64 0, .bool false, .slice none 0 0, .int .i64 0] (w.heap.size + 1 + 1)
  try simp only [List.cons_append, List.nil_append] at S
  refine iv4 S.hold n1 n2 n3 n4 ?_; clear n1 n2 n3 n4; intro n1 n2 n3 n4
  have c0_ := S.c6 0 rfl; have c1_ := S.c6 1 rfl; have c2_ := S.c6 2 rfl
  go_enter Tryz.func32, Tryz.ntmps32
  go_upto_region 1 with fail
  clear c0_ c1_ c2_
  generalize (((w.alloc (.cells #[.bool b1, .slice p1 l1 K1, .int .i64 e1, .bool b2, .slice p2 l2 K2, .int .i64 e2] 29)).alloc (.cells #[.bool b3, .slice p3 l3 K3, .int .i64 e3, .bool b4, .slice p4 l4 K4, .int .i64 e4] 29)).alloc (.cells #[.bool false, .slice none 0 0, .int .i64 0, .bool false, .slice none 0 0, .int .i64 0] 29)) = w1 at S n1 n2 n3 n4 ⊢
  have HH := (Hold.drew w1).to32
  refine iw4 HH n1 n2 n3 n4 ?_; clear n1 n2 n3 n4; intro n1 n2 n3 n4
  replace S := S.drew
  refine wp_region_held_drew (S := fun W => W.cell? ⟨w.heap.size, 0, none⟩ = some (.bool b1) ∧ W.cell? ⟨w.heap.size, 1, none⟩ = some (.slice p1 l1 K1) ∧ W.cell? ⟨w.heap.size, 2, none⟩ = some (.int .i64 e1) ∧ W.cell? ⟨w.heap.size, 3, none⟩ = some (.bool b2) ∧ W.cell? ⟨w.heap.size, 4, none⟩ = some (.slice p2 l2 K2) ∧ W.cell? ⟨w.heap.size, 5, none⟩ = some (.int .i64 e2) ∧ W.cell? ⟨w.heap.size + 1, 0, none⟩ = some (.bool b3) ∧ W.cell? ⟨w.heap.size + 1, 1, none⟩ = some (.slice p3 l3 K3) ∧ W.cell? ⟨w.heap.size + 1, 2, none⟩ = some (.int .i64 e3) ∧ W.cell? ⟨w.heap.size + 1, 3, none⟩ = some (.bool b4) ∧ W.cell? ⟨w.heap.size + 1, 4, none⟩ = some (.slice p4 l4 K4) ∧ W.cell? ⟨w.heap.size + 1, 5, none⟩ = some (.int .i64 e4)) (by kernel_rfl) (con6 (S.c6 0 rfl) (S.c6 1 rfl)) (fun hS => ?_)
  generalize w1.drew = w2 at S n1 n2 n3 n4 HH hS ⊢
  refine tk 0 hS ?_
  refine tk 1 hS ?_
  refine tk 2 hS ?_
  refine tk 3 hS ?_
  refine tk 5 hS ?_
  refine tk 6 hS ?_
  refine tk 7 hS ?_
  refine tk 8 hS ?_
  refine rd 4 fun KK hKK => ?_
  go_simp; clear hS
  refine S.cl (dmin_any ⟨b1, p1, l1, K1, m1, e1, rfl, h1, n1, d1⟩ ⟨b3, p3, l3, K3, m3, e3, rfl, h3, n3, d3⟩ HK.out) ?_; clear S; rintro e w3 ⟨_, rfl, b5, p5, l5, K5, m5, e5, rfl, h5, n5, d5⟩ S H
  refine iv4 H n1 n2 n3 n4 ?_; clear n1 n2 n3 n4; intro n1 n2 n3 n4; replace HH := HH.trans H.to32; clear H
  go_wp2_with fail
  refine ho hKK (con6 (S.c6 0 rfl) (S.c6 1 rfl)) fun hS => ?_
  clear hKK KK
  refine rd 9 fun KK hKK => ?_
  go_simp; clear hS
  refine S.cl (dmax_any ⟨b2, p2, l2, K2, m2, e2, rfl, h2, n2, d2⟩ ⟨b4, p4, l4, K4, m4, e4, rfl, h4, n4, d4⟩ HK.out) ?_; clear S; rintro e w4 ⟨_, rfl, b6, p6, l6, K6, m6, e6, rfl, h6, n6, d6⟩ S H
  refine iv5 H n1 n2 n3 n4 n5 ?_; clear n1 n2 n3 n4 n5; intro n1 n2 n3 n4 n5; replace HH := HH.trans H.to32; clear H
  go_wp2_with fail
  refine ho hKK (con6 (S.c6 0 rfl) (S.c6 1 rfl)) fun hS => ?_
  clear hKK KK
  refine tk 10 hS ?_
  refine rd 11 fun KK hKK => ?_
  obtain ⟨c0, c1, c2, c3, c4, c5⟩ := S.c6 2 rfl; obtain ⟨f0, f1, f2, f3, f4, f5⟩ := S.f6 2 rfl
  go_simp; clear hS c0 f0 c1 f1 c2 f2 c3 f3 c4 f4 c5 f5
  have HP := S.put6 2 (.bool b5) (.slice p5 l5 K5) (.int .i64 e5) (.bool b6) (.slice p6 l6 K6) (.int .i64 e6) rfl rfl; have H := HP.2; replace S := HP.1; clear HP
  refine iw7 H n1 n2 n3 n4 n5 n6 HH ?_; clear n1 n2 n3 n4 n5 n6 HH H; intro n1 n2 n3 n4 n5 n6 HH
  refine ho hKK (con6 (S.c6 0 rfl) (S.c6 1 rfl)) fun hS => ?_
  generalize ((((((w4.setCell ⟨w.heap.size + 1 + 1, 0, none⟩ (.bool b5)).setCell ⟨w.heap.size + 1 + 1, 1, none⟩ (.slice p5 l5 K5)).setCell ⟨w.heap.size + 1 + 1, 2, none⟩ (.int .i64 e5)).setCell ⟨w.heap.size + 1 + 1, 3, none⟩ (.bool b6)).setCell ⟨w.heap.size + 1 + 1, 4, none⟩ (.slice p6 l6 K6)).setCell ⟨w.heap.size + 1 + 1, 5, none⟩ (.int .i64 e6)) = w5 at S n1 n2 n3 n4 n5 n6 HH hS ⊢
  clear hKK KK
  refine wpAnyH_done (by kernel_rfl) ?_ _
  clear hS HH; have c0_ := S.c6 0 rfl; have c1_ := S.c6 1 rfl; have c2_ := S.c6 2 rfl; go_wp2_with fail; obtain ⟨d2_0, d2_1, d2_2, d2_3, d2_4, d2_5⟩ := S.c6 2 rfl
  exact bodyPost_ret (v := .agg #[.bool b5, .slice p5 l5 K5, .int .i64 e5, .bool b6, .slice p6 l6 K6, .int .i64 e6]) (by simp [results, Tryz.f32, go_sem, d2_0, d2_1, d2_2, d2_3, d2_4, d2_5]) rfl (⟨⟨_, rfl, b5, p5, l5, K5, m5, e5, b6, p6, l6, K6, m6, e6, rfl, h5, n5, d5, h6, n6, d6⟩, S.below⟩)
set_option maxRecDepth 100000 in
set_option maxHeartbeats 2000000 in
theorem seven_any {va : Value} {x : Rat} {w : World} {L H : Nat} (ha : IsD w va x L H) (hk : H + L ≤ 16384) :
    Calls Tryz.prog 63 #[va] w fun e w' => (∃ u, e = .returned u ∧ IsSp w' u (-x.abs) x.abs L H) ∧ Below w.heap.size w w' := by
  obtain ⟨b1, p1, l1, K1, m1, e1, rfl, h1, n1, d1⟩ := ha
  have HK := Lib.hid hk
  clear hk
  have S := ((St.start w).alloc 27 [.bool b1, .slice p1 l1 K1, .int .i64 e1] (w.heap.size)).alloc 29 [.bool false, .slice none 0 0, .int .i64 0, .bool false, .slice none 0 0, .int .i64 0] (w.heap.size + 1)
  try simp only [List.cons_append, List.nil_append] at S
  replace n1 := n1.hold S.hold
  have c0_ := S.c3 0 rfl; have c1_ := S.c6 1 rfl
  go_enter Tryz.func63, Tryz.ntmps63
  go_wp2_with fail; clear c0_ c1_
  refine S.cl (dabs_any ⟨b1, p1, l1, K1, m1, e1, rfl, h1, n1, d1⟩ HK.out) ?_; clear S; rintro e w1 ⟨_, rfl, b3, p3, l3, K3, m3, e3, rfl, h3, n3, d3⟩ S H
  replace n1 := n1.hold H; clear H; have c0_ := S.c3 0 rfl; have c1_ := S.c6 1 rfl
  have H := S.hnew 27 [.bool b3, .slice p3 l3 K3, .int .i64 e3]
  replace S := S.al 27 [.bool b3, .slice p3 l3 K3, .int .i64 e3] (w1.heap.size)
  replace n1 := n1.hold H; replace n3 := n3.hold H
  clear H; clear c0_ c1_; have c0_ := S.c3 0 rfl; have c1_ := S.c6 1 rfl; have c2_ := S.c3 2 rfl
  go_upto_region 2 with fail
  clear c0_ c1_ c2_
  generalize (w1.alloc (.cells #[.bool b3, .slice p3 l3 K3, .int .i64 e3] 27)) = w2 at S n1 n3 ⊢
  have HH := (Hold.drew w2).to32
  replace n1 := n1.hold32 HH; replace n3 := n3.hold32 HH
  replace S := S.drew
  refine wp_region_held_drew (S := fun W => W.cell? ⟨w1.heap.size, 0, none⟩ = some (.bool b3) ∧ W.cell? ⟨w1.heap.size, 1, none⟩ = some (.slice p3 l3 K3) ∧ W.cell? ⟨w1.heap.size, 2, none⟩ = some (.int .i64 e3)) (by kernel_rfl) (S.c3 2 rfl) (fun hS => ?_)
  generalize w2.drew = w3 at S n1 n3 HH hS ⊢
  refine tk 0 hS ?_
  refine tk 2 hS ?_
  refine rd 1 fun KK hKK => ?_
  go_simp; clear hS
  refine S.cl (dneg_any ⟨b3, p3, l3, K3, m3, e3, rfl, h3, n3, d3⟩ HK.out) ?_; clear S; rintro e w4 ⟨_, rfl, b4, p4, l4, K4, m4, e4, rfl, h4, n4, d4⟩ S H
  replace n1 := n1.hold H; replace n3 := n3.hold H; replace HH := HH.trans H.to32; clear H
  go_wp2_with fail
  refine ho hKK (S.c3 2 rfl) fun hS => ?_
  clear hKK KK
  refine tk 3 hS ?_
  refine rd 4 fun KK hKK => ?_
  obtain ⟨c0, c1, c2, c3, c4, c5⟩ := S.c6 1 rfl; obtain ⟨f0, f1, f2, f3, f4, f5⟩ := S.f6 1 rfl
  go_simp; clear hS c0 f0 c1 f1 c2 f2 c3 f3 c4 f4 c5 f5
  have HP := S.put6 1 (.bool b4) (.slice p4 l4 K4) (.int .i64 e4) (.bool b3) (.slice p3 l3 K3) (.int .i64 e3) rfl rfl; have H := HP.2; replace S := HP.1; clear HP
  refine iw4 H n1 n3 n4 HH ?_; clear n1 n3 n4 HH H; intro n1 n3 n4 HH
  refine ho hKK (S.c3 2 rfl) fun hS => ?_
  generalize ((((((w4.setCell ⟨w.heap.size + 1, 0, none⟩ (.bool b4)).setCell ⟨w.heap.size + 1, 1, none⟩ (.slice p4 l4 K4)).setCell ⟨w.heap.size + 1, 2, none⟩ (.int .i64 e4)).setCell ⟨w.heap.size + 1, 3, none⟩ (.bool b3)).setCell ⟨w.heap.size + 1, 4, none⟩ (.slice p3 l3 K3)).setCell ⟨w.heap.size + 1, 5, none⟩ (.int .i64 e3)) = w5 at S n1 n3 n4 HH hS ⊢
  clear hKK KK
  refine wpAnyH_done (by kernel_rfl) ?_ _
  clear hS HH; have c0_ := S.c3 0 rfl; have c1_ := S.c6 1 rfl; have c2_ := S.c3 2 rfl; go_wp2_with fail; obtain ⟨d1_0, d1_1, d1_2, d1_3, d1_4, d1_5⟩ := S.c6 1 rfl
  exact bodyPost_ret (v := .agg #[.bool b4, .slice p4 l4 K4, .int .i64 e4, .bool b3, .slice p3 l3 K3, .int .i64 e3]) (by simp [results, Tryz.f63, go_sem, d1_0, d1_1, d1_2, d1_3, d1_4, d1_5]) rfl (⟨⟨_, rfl, b4, p4, l4, K4, m4, e4, b3, p3, l3, K3, m3, e3, rfl, h4, n4, d4, h3, n3, d3⟩, S.below⟩)
set_option maxRecDepth 100000 in
set_option maxHeartbeats 2000000 in
theorem shas_any {va vd : Value} {x y z : Rat} {w : World} {L H : Nat} (ha : IsSp w va x y L H) (hd : IsD w vd z L H) (hk : H + L ≤ 16384) (r : Bool) (hr : decide (¬ z < x ∧ ¬ y < z) = r) :
    Calls Tryz.prog 30 #[va, vd] w fun e w' => e = .returned (.bool r) ∧ Below w.heap.size w w' := by
  obtain ⟨b1, p1, l1, K1, m1, e1, b2, p2, l2, K2, m2, e2, rfl, h1, n1, d1, h2, n2, d2⟩ := ha
  obtain ⟨b3, p3, l3, K3, m3, e3, rfl, h3, n3, d3⟩ := hd
  have HK := Lib.hid hk
  clear hk
  by_cases hlt : z < x
  · have hr1 := Lib.hid (decide_eq_true hlt)
    have e0 : r = false := by rw [← hr]; exact decide_eq_false (fun h => h.1 hlt)
    subst e0
    clear hlt hr
    have S := ((St.start w).alloc 29 [.bool b1, .slice p1 l1 K1, .int .i64 e1, .bool b2, .slice p2 l2 K2, .int .i64 e2] (w.heap.size)).alloc 27 [.bool b3, .slice p3 l3 K3, .int .i64 e3] (w.heap.size + 1)
    try simp only [List.cons_append, List.nil_append] at S
    refine iv3 S.hold n1 n2 n3 ?_; clear n1 n2 n3; intro n1 n2 n3
    have c0_ := S.c6 0 rfl; have c1_ := S.c3 1 rfl
    go_enter Tryz.func30, Tryz.ntmps30
    go_wp2_with fail; clear c0_ c1_
    refine S.cl (dless_any ⟨b3, p3, l3, K3, m3, e3, rfl, h3, n3, d3⟩ ⟨b1, p1, l1, K1, m1, e1, rfl, h1, n1, d1⟩ HK.out true hr1.out) ?_; clear S; rintro e w1 rfl S H
    refine iv3 H n1 n2 n3 ?_; clear n1 n2 n3; intro n1 n2 n3
    clear H; have c0_ := S.c6 0 rfl; have c1_ := S.c3 1 rfl; go_wp2_with fail
    exact bodyPost_ret (v := .bool false) (by simp [results, Tryz.f30, go_sem]) rfl (⟨rfl, S.below⟩)
  by_cases hlt2 : y < z
  · have hr1 := Lib.hid (decide_eq_false hlt)
    have hr2 := Lib.hid (decide_eq_true hlt2)
    have e0 : r = false := by rw [← hr]; exact decide_eq_false (fun h => h.2 hlt2)
    subst e0
    clear hlt hlt2 hr
    have S := ((St.start w).alloc 29 [.bool b1, .slice p1 l1 K1, .int .i64 e1, .bool b2, .slice p2 l2 K2, .int .i64 e2] (w.heap.size)).alloc 27 [.bool b3, .slice p3 l3 K3, .int .i64 e3] (w.heap.size + 1)
    try simp only [List.cons_append, List.nil_append] at S
    refine iv3 S.hold n1 n2 n3 ?_; clear n1 n2 n3; intro n1 n2 n3
    have c0_ := S.c6 0 rfl; have c1_ := S.c3 1 rfl
    go_enter Tryz.func30, Tryz.ntmps30
    go_wp2_with fail; clear c0_ c1_
    refine S.cl (dless_any ⟨b3, p3, l3, K3, m3, e3, rfl, h3, n3, d3⟩ ⟨b1, p1, l1, K1, m1, e1, rfl, h1, n1, d1⟩ HK.out false hr1.out) ?_; clear S; rintro e w1 rfl S H
    refine iv3 H n1 n2 n3 ?_; clear n1 n2 n3; intro n1 n2 n3
    clear H; have c0_ := S.c6 0 rfl; have c1_ := S.c3 1 rfl; go_wp2_with fail; clear c0_ c1_
    refine S.cl (dless_any ⟨b2, p2, l2, K2, m2, e2, rfl, h2, n2, d2⟩ ⟨b3, p3, l3, K3, m3, e3, rfl, h3, n3, d3⟩ HK.out true hr2.out) ?_; clear S; rintro e w2 rfl S H
    refine iv3 H n1 n2 n3 ?_; clear n1 n2 n3; intro n1 n2 n3
    clear H; have c0_ := S.c6 0 rfl; have c1_ := S.c3 1 rfl; go_wp2_with fail
    exact bodyPost_ret (v := .bool false) (by simp [results, Tryz.f30, go_sem]) rfl (⟨rfl, S.below⟩)
  · have hr1 := Lib.hid (decide_eq_false hlt)
    have hr2 := Lib.hid (decide_eq_false hlt2)
    have e0 : r = true := by rw [← hr]; exact decide_eq_true ⟨hlt, hlt2⟩
    subst e0
    clear hlt hlt2 hr
    have S := ((St.start w).alloc 29 [.bool b1, .slice p1 l1 K1, .int .i64 e1, .bool b2, .slice p2 l2 K2, .int .i64 e2] (w.heap.size)).alloc 27 [.bool b3, .slice p3 l3 K3, .int .i64 e3] (w.heap.size + 1)
    try simp only [List.cons_append, List.nil_append] at S
    refine iv3 S.hold n1 n2 n3 ?_; clear n1 n2 n3; intro n1 n2 n3
    have c0_ := S.c6 0 rfl; have c1_ := S.c3 1 rfl
    go_enter Tryz.func30, Tryz.ntmps30
    go_wp2_with fail; clear c0_ c1_
    refine S.cl (dless_any ⟨b3, p3, l3, K3, m3, e3, rfl, h3, n3, d3⟩ ⟨b1, p1, l1, K1, m1, e1, rfl, h1, n1, d1⟩ HK.out false hr1.out) ?_; clear S; rintro e w1 rfl S H
    refine iv3 H n1 n2 n3 ?_; clear n1 n2 n3; intro n1 n2 n3
    clear H; have c0_ := S.c6 0 rfl; have c1_ := S.c3 1 rfl; go_wp2_with fail; clear c0_ c1_
    refine S.cl (dless_any ⟨b2, p2, l2, K2, m2, e2, rfl, h2, n2, d2⟩ ⟨b3, p3, l3, K3, m3, e3, rfl, h3, n3, d3⟩ HK.out false hr2.out) ?_; clear S; rintro e w2 rfl S H
    refine iv3 H n1 n2 n3 ?_; clear n1 n2 n3; intro n1 n2 n3
    clear H; have c0_ := S.c6 0 rfl; have c1_ := S.c3 1 rfl; go_wp2_with fail
    exact bodyPost_ret (v := .bool true) (by simp [results, Tryz.f30, go_sem]) rfl (⟨rfl, S.below⟩)
set_option maxRecDepth 100000 in
set_option maxHeartbeats 2000000 in
theorem sholds_any {va vb : Value} {x y u v : Rat} {w : World} {L H : Nat} (ha : IsSp w va x y L H) (hb : IsSp w vb u v L H) (hk : H + L ≤ 16384) (r : Bool) (hr : decide (¬ u < x ∧ ¬ y < v) = r) :
    Calls Tryz.prog 34 #[va, vb] w fun e w' => e = .returned (.bool r) ∧ Below w.heap.size w w' := by
  obtain ⟨b1, p1, l1, K1, m1, e1, b2, p2, l2, K2, m2, e2, rfl, h1, n1, d1, h2, n2, d2⟩ := ha
  obtain ⟨b3, p3, l3, K3, m3, e3, b4, p4, l4, K4, m4, e4, rfl, h3, n3, d3, h4, n4, d4⟩ := hb
  have HK := Lib.hid hk
  clear hk
  by_cases hlt : u < x
  · have hr1 := Lib.hid (decide_eq_true hlt)
    have e0 : r = false := by rw [← hr]; exact decide_eq_false (fun h => h.1 hlt)
    subst e0
    clear hlt hr
    have S := ((St.start w).alloc 29 [.bool b1, .slice p1 l1 K1, .int .i64 e1, .bool b2, .slice p2 l2 K2, .int .i64 e2] (w.heap.size)).alloc 29 [.bool b3, .slice p3 l3 K3, .int .i64 e3, .bool b4, .slice p4 l4 K4, .int .i64 e4] (w.heap.size + 1)
    try simp only [List.cons_append, List.nil_append] at S
    refine iv4 S.hold n1 n2 n3 n4 ?_; clear n1 n2 n3 n4; intro n1 n2 n3 n4
    have c0_ := S.c6 0 rfl; have c1_ := S.c6 1 rfl
    go_enter Tryz.func34, Tryz.ntmps34
    go_wp2_with fail; clear c0_ c1_
    refine S.cl (dless_any ⟨b3, p3, l3, K3, m3, e3, rfl, h3, n3, d3⟩ ⟨b1, p1, l1, K1, m1, e1, rfl, h1, n1, d1⟩ HK.out true hr1.out) ?_; clear S; rintro e w1 rfl S H
    refine iv4 H n1 n2 n3 n4 ?_; clear n1 n2 n3 n4; intro n1 n2 n3 n4
    clear H; have c0_ := S.c6 0 rfl; have c1_ := S.c6 1 rfl; go_wp2_with fail
    exact bodyPost_ret (v := .bool false) (by simp [results, Tryz.f34, go_sem]) rfl (⟨rfl, S.below⟩)
  by_cases hlt2 : y < v
  · have hr1 := Lib.hid (decide_eq_false hlt)
    have hr2 := Lib.hid (decide_eq_true hlt2)
    have e0 : r = false := by rw [← hr]; exact decide_eq_false (fun h => h.2 hlt2)
    subst e0
    clear hlt hlt2 hr
    have S := ((St.start w).alloc 29 [.bool b1, .slice p1 l1 K1, .int .i64 e1, .bool b2, .slice p2 l2 K2, .int .i64 e2] (w.heap.size)).alloc 29 [.bool b3, .slice p3 l3 K3, .int .i64 e3, .bool b4, .slice p4 l4 K4, .int .i64 e4] (w.heap.size + 1)
    try simp only [List.cons_append, List.nil_append] at S
    refine iv4 S.hold n1 n2 n3 n4 ?_; clear n1 n2 n3 n4; intro n1 n2 n3 n4
    have c0_ := S.c6 0 rfl; have c1_ := S.c6 1 rfl
    go_enter Tryz.func34, Tryz.ntmps34
    go_wp2_with fail; clear c0_ c1_
    refine S.cl (dless_any ⟨b3, p3, l3, K3, m3, e3, rfl, h3, n3, d3⟩ ⟨b1, p1, l1, K1, m1, e1, rfl, h1, n1, d1⟩ HK.out false hr1.out) ?_; clear S; rintro e w1 rfl S H
    refine iv4 H n1 n2 n3 n4 ?_; clear n1 n2 n3 n4; intro n1 n2 n3 n4
    clear H; have c0_ := S.c6 0 rfl; have c1_ := S.c6 1 rfl; go_wp2_with fail; clear c0_ c1_
    refine S.cl (dless_any ⟨b2, p2, l2, K2, m2, e2, rfl, h2, n2, d2⟩ ⟨b4, p4, l4, K4, m4, e4, rfl, h4, n4, d4⟩ HK.out true hr2.out) ?_; clear S; rintro e w2 rfl S H
    refine iv4 H n1 n2 n3 n4 ?_; clear n1 n2 n3 n4; intro n1 n2 n3 n4
    clear H; have c0_ := S.c6 0 rfl; have c1_ := S.c6 1 rfl; go_wp2_with fail
    exact bodyPost_ret (v := .bool false) (by simp [results, Tryz.f34, go_sem]) rfl (⟨rfl, S.below⟩)
  · have hr1 := Lib.hid (decide_eq_false hlt)
    have hr2 := Lib.hid (decide_eq_false hlt2)
    have e0 : r = true := by rw [← hr]; exact decide_eq_true ⟨hlt, hlt2⟩
    subst e0
    clear hlt hlt2 hr
    have S := ((St.start w).alloc 29 [.bool b1, .slice p1 l1 K1, .int .i64 e1, .bool b2, .slice p2 l2 K2, .int .i64 e2] (w.heap.size)).alloc 29 [.bool b3, .slice p3 l3 K3, .int .i64 e3, .bool b4, .slice p4 l4 K4, .int .i64 e4] (w.heap.size + 1)
    try simp only [List.cons_append, List.nil_append] at S
    refine iv4 S.hold n1 n2 n3 n4 ?_; clear n1 n2 n3 n4; intro n1 n2 n3 n4
    have c0_ := S.c6 0 rfl; have c1_ := S.c6 1 rfl
    go_enter Tryz.func34, Tryz.ntmps34
    go_wp2_with fail; clear c0_ c1_
    refine S.cl (dless_any ⟨b3, p3, l3, K3, m3, e3, rfl, h3, n3, d3⟩ ⟨b1, p1, l1, K1, m1, e1, rfl, h1, n1, d1⟩ HK.out false hr1.out) ?_; clear S; rintro e w1 rfl S H
    refine iv4 H n1 n2 n3 n4 ?_; clear n1 n2 n3 n4; intro n1 n2 n3 n4
    clear H; have c0_ := S.c6 0 rfl; have c1_ := S.c6 1 rfl; go_wp2_with fail; clear c0_ c1_
    refine S.cl (dless_any ⟨b2, p2, l2, K2, m2, e2, rfl, h2, n2, d2⟩ ⟨b4, p4, l4, K4, m4, e4, rfl, h4, n4, d4⟩ HK.out false hr2.out) ?_; clear S; rintro e w2 rfl S H
    refine iv4 H n1 n2 n3 n4 ?_; clear n1 n2 n3 n4; intro n1 n2 n3 n4
    clear H; have c0_ := S.c6 0 rfl; have c1_ := S.c6 1 rfl; go_wp2_with fail
    exact bodyPost_ret (v := .bool true) (by simp [results, Tryz.f34, go_sem]) rfl (⟨rfl, S.below⟩)
set_option maxRecDepth 100000 in
set_option maxHeartbeats 2000000 in
theorem smake_any {va vb : Value} {x y : Rat} {w : World} {L H : Nat} (ha : IsD w va x L H) (hb : IsD w vb y L H) (hk : H + L ≤ 16384) (hxy : ¬ y < x) :
    Calls Tryz.prog 58 #[va, vb] w fun e w' => (∃ u, e = .returned (.tuple #[u, .int .i64 0]) ∧ IsSp w' u x y L H) ∧ Below w.heap.size w w' := by
  obtain ⟨b1, p1, l1, K1, m1, e1, rfl, h1, n1, d1⟩ := ha
  obtain ⟨b2, p2, l2, K2, m2, e2, rfl, h2, n2, d2⟩ := hb
  have HK := Lib.hid hk
  have hr := Lib.hid (decide_eq_false hxy)
  clear hk hxy
  have S := (((St.start w).alloc 27 [.bool b1, .slice p1 l1 K1, .int .i64 e1] (w.heap.size)).alloc 27 [.bool b2, .slice p2 l2 K2, .int .i64 e2] (w.heap.size + 1)).alloc 29 [.bool false, .slice none 0 0, .int .i64 0, .bool false, .slice none 0 0, .int .i64 0] (w.heap.size + 1 + 1)
  try simp only [List.cons_append, List.nil_append] at S
  replace n1 := n1.hold S.hold; replace n2 := n2.hold S.hold
  have c0_ := S.c3 0 rfl; have c1_ := S.c3 1 rfl; have c2_ := S.c6 2 rfl
  go_enter Tryz.func58, Tryz.ntmps58
  go_wp2_with fail; clear c0_ c1_ c2_
  refine S.cl (dless_any ⟨b2, p2, l2, K2, m2, e2, rfl, h2, n2, d2⟩ ⟨b1, p1, l1, K1, m1, e1, rfl, h1, n1, d1⟩ HK.out false hr.out) ?_; clear S; rintro e w1 rfl S H
  replace n1 := n1.hold H; replace n2 := n2.hold H
  clear H; have c0_ := S.c3 0 rfl; have c1_ := S.c3 1 rfl; have c2_ := S.c6 2 rfl
  go_upto_region 3 with fail
  clear c0_ c1_ c2_
  have HH := (Hold.drew w1).to32
  replace n1 := n1.hold32 HH; replace n2 := n2.hold32 HH
  replace S := S.drew
  refine wp_region_held_drew (S := fun W => W.cell? ⟨w.heap.size, 0, none⟩ = some (.bool b1) ∧ W.cell? ⟨w.heap.size, 1, none⟩ = some (.slice p1 l1 K1) ∧ W.cell? ⟨w.heap.size, 2, none⟩ = some (.int .i64 e1) ∧ W.cell? ⟨w.heap.size + 1, 0, none⟩ = some (.bool b2) ∧ W.cell? ⟨w.heap.size + 1, 1, none⟩ = some (.slice p2 l2 K2) ∧ W.cell? ⟨w.heap.size + 1, 2, none⟩ = some (.int .i64 e2)) (by kernel_rfl) (con3 (S.c3 0 rfl) (S.c3 1 rfl)) (fun hS => ?_)
  generalize w1.drew = w2 at S n1 n2 HH hS ⊢
  refine tk 0 hS ?_
  refine tk 2 hS ?_
  refine rd 1 fun KK hKK => ?_
  go_simp; clear hS
  refine S.cl (scopied_any ⟨b1, p1, l1, K1, m1, e1, rfl, h1, n1, d1⟩ HK.out) ?_; clear S; rintro e w3 ⟨_, rfl, b3, p3, l3, K3, m3, e3, rfl, h3, n3, d3⟩ S H
  replace n1 := n1.hold H; replace n2 := n2.hold H; replace HH := HH.trans H.to32; clear H
  go_wp2_with fail
  refine ho hKK (con3 (S.c3 0 rfl) (S.c3 1 rfl)) fun hS => ?_
  clear hKK KK
  refine rd 3 fun KK hKK => ?_
  go_simp; clear hS
  refine S.cl (scopied_any ⟨b2, p2, l2, K2, m2, e2, rfl, h2, n2, d2⟩ HK.out) ?_; clear S; rintro e w4 ⟨_, rfl, b4, p4, l4, K4, m4, e4, rfl, h4, n4, d4⟩ S H
  refine iv3 H n1 n2 n3 ?_; clear n1 n2 n3; intro n1 n2 n3; replace HH := HH.trans H.to32; clear H
  go_wp2_with fail
  refine ho hKK (con3 (S.c3 0 rfl) (S.c3 1 rfl)) fun hS => ?_
  clear hKK KK
  refine tk 4 hS ?_
  refine rd 5 fun KK hKK => ?_
  obtain ⟨c0, c1, c2, c3, c4, c5⟩ := S.c6 2 rfl; obtain ⟨f0, f1, f2, f3, f4, f5⟩ := S.f6 2 rfl
  go_simp; clear hS c0 f0 c1 f1 c2 f2 c3 f3 c4 f4 c5 f5
  have HP := S.put6 2 (.bool b3) (.slice p3 l3 K3) (.int .i64 e3) (.bool b4) (.slice p4 l4 K4) (.int .i64 e4) rfl rfl; have H := HP.2; replace S := HP.1; clear HP
  refine iw5 H n1 n2 n3 n4 HH ?_; clear n1 n2 n3 n4 HH H; intro n1 n2 n3 n4 HH
  refine ho hKK (con3 (S.c3 0 rfl) (S.c3 1 rfl)) fun hS => ?_
  generalize ((((((w4.setCell ⟨w.heap.size + 1 + 1, 0, none⟩ (.bool b3)).setCell ⟨w.heap.size + 1 + 1, 1, none⟩ (.slice p3 l3 K3)).setCell ⟨w.heap.size + 1 + 1, 2, none⟩ (.int .i64 e3)).setCell ⟨w.heap.size + 1 + 1, 3, none⟩ (.bool b4)).setCell ⟨w.heap.size + 1 + 1, 4, none⟩ (.slice p4 l4 K4)).setCell ⟨w.heap.size + 1 + 1, 5, none⟩ (.int .i64 e4)) = w5 at S n1 n2 n3 n4 HH hS ⊢
  clear hKK KK
  refine rd 6 fun KK hKK => ?_
  go_simp
  refine ho hKK hS fun hS => ?_
  clear hKK KK
  refine wpAnyH_done (by kernel_rfl) ?_ _
  clear hS HH; have c0_ := S.c3 0 rfl; have c1_ := S.c3 1 rfl; have c2_ := S.c6 2 rfl; go_wp2_with fail; obtain ⟨d2_0, d2_1, d2_2, d2_3, d2_4, d2_5⟩ := S.c6 2 rfl
  exact bodyPost_ret (v := .tuple #[.agg #[.bool b3, .slice p3 l3 K3, .int .i64 e3, .bool b4, .slice p4 l4 K4, .int .i64 e4], .int .i64 0]) (by simp [results, Tryz.f58, go_sem, d2_0, d2_1, d2_2, d2_3, d2_4, d2_5]) rfl (⟨⟨_, rfl, b3, p3, l3, K3, m3, e3, b4, p4, l4, K4, m4, e4, rfl, h3, n3, d3, h4, n4, d4⟩, S.below⟩)
set_option maxRecDepth 100000 in
set_option maxHeartbeats 2000000 in
theorem smake_back {va vb : Value} {x y : Rat} {w : World} {L H : Nat} (ha : IsD w va x L H) (hb : IsD w vb y L H) (hk : H + L ≤ 16384) (hxy : y < x) :
    Calls Tryz.prog 58 #[va, vb] w fun e w' => e = .returned (.tuple #[.agg #[.bool false, .slice none 0 0, .int .i64 0, .bool false, .slice none 0 0, .int .i64 0], .int .i64 1]) ∧ Below w.heap.size w w' := by
  obtain ⟨b1, p1, l1, K1, m1, e1, rfl, h1, n1, d1⟩ := ha
  obtain ⟨b2, p2, l2, K2, m2, e2, rfl, h2, n2, d2⟩ := hb
  have HK := Lib.hid hk
  have hr := Lib.hid (decide_eq_true hxy)
  clear hk hxy
  have S := (((St.start w).alloc 27 [.bool b1, .slice p1 l1 K1, .int .i64 e1] (w.heap.size)).alloc 27 [.bool b2, .slice p2 l2 K2, .int .i64 e2] (w.heap.size + 1)).alloc 29 [.bool false, .slice none 0 0, .int .i64 0, .bool false, .slice none 0 0, .int .i64 0] (w.heap.size + 1 + 1)
  try simp only [List.cons_append, List.nil_append] at S
  replace n1 := n1.hold S.hold; replace n2 := n2.hold S.hold
  have c0_ := S.c3 0 rfl; have c1_ := S.c3 1 rfl; have c2_ := S.c6 2 rfl
  go_enter Tryz.func58, Tryz.ntmps58
  go_wp2_with fail; clear c0_ c1_ c2_
  refine S.cl (dless_any ⟨b2, p2, l2, K2, m2, e2, rfl, h2, n2, d2⟩ ⟨b1, p1, l1, K1, m1, e1, rfl, h1, n1, d1⟩ HK.out true hr.out) ?_; clear S; rintro e w1 rfl S H
  replace n1 := n1.hold H; replace n2 := n2.hold H
  clear H; have c0_ := S.c3 0 rfl; have c1_ := S.c3 1 rfl; have c2_ := S.c6 2 rfl; clear c0_ c1_ c2_; have c0_ := S.c3 0 rfl; have c1_ := S.c3 1 rfl; have c2_ := S.c6 2 rfl
  obtain ⟨f2_0, f2_1, f2_2, f2_3, f2_4, f2_5⟩ := S.f6 2 rfl
  have HP := S.put6 2 (.bool false) (.slice none 0 0) (.int .i64 0) (.bool false) (.slice none 0 0) (.int .i64 0) rfl rfl; have H := HP.2; replace S := HP.1; clear HP
  replace n1 := n1.hold32 H; replace n2 := n2.hold32 H
  clear H; go_wp2_with fail; obtain ⟨d2_0, d2_1, d2_2, d2_3, d2_4, d2_5⟩ := S.c6 2 rfl
  exact bodyPost_ret (v := .tuple #[.agg #[.bool false, .slice none 0 0, .int .i64 0, .bool false, .slice none 0 0, .int .i64 0], .int .i64 1]) (by simp [results, Tryz.f58, go_sem, d2_0, d2_1, d2_2, d2_3, d2_4, d2_5]) rfl (⟨rfl, S.below⟩)
set_option maxRecDepth 100000 in
set_option maxHeartbeats 2000000 in
theorem swidth_any {va : Value} {x y : Rat} {w : World} {L H : Nat} (hT : Tab w) (ha : IsSp w va x y L H) (hk : H + 1 + L ≤ 16384) (q : Rat) (hq : y - x = q) :
    Calls Tryz.prog 41 #[va] w fun e w' => (∃ u, e = .returned (.tuple #[u, .int .i64 0]) ∧ IsD w' u q L (H + 1)) ∧ Below w.heap.size w w' := by
  obtain ⟨b1, p1, l1, K1, m1, e1, b2, p2, l2, K2, m2, e2, rfl, h1, n1, d1, h2, n2, d2⟩ := ha
  have HK := Lib.hid (And.intro hk (And.intro hq hT))
  clear hk hq hT
  have S := ((St.start w).alloc 29 [.bool b1, .slice p1 l1 K1, .int .i64 e1, .bool b2, .slice p2 l2 K2, .int .i64 e2] (w.heap.size)).alloc 27 [.bool false, .slice none 0 0, .int .i64 0] (w.heap.size + 1)
  try simp only [List.cons_append, List.nil_append] at S
  replace n1 := n1.hold S.hold; replace n2 := n2.hold S.hold
  have c0_ := S.c6 0 rfl; have c1_ := S.c3 1 rfl
  go_enter Tryz.func41, Tryz.ntmps41
  go_wp2_with fail; clear c0_ c1_
  refine S.cl (dsub_any (HK.out.2.2.below S.below) ⟨b2, p2, l2, K2, m2, e2, rfl, h2, n2, d2⟩ ⟨b1, p1, l1, K1, m1, e1, rfl, h1, n1, d1⟩ HK.out.1 q HK.out.2.1) ?_; clear S; rintro e w1 ⟨_, rfl, b3, p3, l3, K3, m3, e3, rfl, h3, n3, d3⟩ S H
  replace n1 := n1.hold H; replace n2 := n2.hold H
  clear H; have c0_ := S.c6 0 rfl; have c1_ := S.c3 1 rfl; clear c0_ c1_; have c0_ := S.c6 0 rfl; have c1_ := S.c3 1 rfl
  obtain ⟨f1_0, f1_1, f1_2⟩ := S.f3 1 rfl
  have HP := S.put3 1 (.bool b3) (.slice p3 l3 K3) (.int .i64 e3) rfl rfl; have H := HP.2; replace S := HP.1; clear HP
  refine iw3 H n1 n2 n3 ?_; clear n1 n2 n3; intro n1 n2 n3
  clear H; go_wp2_with fail; obtain ⟨d1_0, d1_1, d1_2⟩ := S.c3 1 rfl
  exact bodyPost_ret (v := .tuple #[.agg #[.bool b3, .slice p3 l3 K3, .int .i64 e3], .int .i64 0]) (by simp [results, Tryz.f41, go_sem, d1_0, d1_1, d1_2]) rfl (⟨⟨_, rfl, b3, p3, l3, K3, m3, e3, rfl, h3, n3, d3⟩, S.below⟩)
set_option maxRecDepth 100000 in
set_option maxHeartbeats 16000000 in
theorem sbetween_any {va vb : Value} {x y : Rat} {w : World} {L H : Nat} (ha : IsD w va x L H) (hb : IsD w vb y L H) :
    Calls Tryz.prog 71 #[va, vb, .int .i64 0] w fun e w' => (∃ u, e = .returned (.tuple #[u, .int .i64 0]) ∧ IsSp w' u x y L H) ∧ Below w.heap.size w w' := by
  obtain ⟨b1, p1, l1, K1, m1, e1, rfl, h1, n1, d1⟩ := ha
  obtain ⟨b2, p2, l2, K2, m2, e2, rfl, h2, n2, d2⟩ := hb
  have S := (((St.start w).alloc 27 [.bool b1, .slice p1 l1 K1, .int .i64 e1] (w.heap.size)).alloc 27 [.bool b2, .slice p2 l2 K2, .int .i64 e2] (w.heap.size + 1)).alloc 29 [.bool false, .slice none 0 0, .int .i64 0, .bool false, .slice none 0 0, .int .i64 0] (w.heap.size + 1 + 1)
  try simp only [List.cons_append, List.nil_append] at S
  replace n1 := n1.hold S.hold; replace n2 := n2.hold S.hold
  have c0_ := S.c3 0 rfl; have c1_ := S.c3 1 rfl; have c2_ := S.c6 2 rfl
  go_enter Tryz.func71, Tryz.ntmps71
  go_upto_region 1 with fail
  clear c0_ c1_ c2_
  generalize (((w.alloc (.cells #[.bool b1, .slice p1 l1 K1, .int .i64 e1] 27)).alloc (.cells #[.bool b2, .slice p2 l2 K2, .int .i64 e2] 27)).alloc (.cells #[.bool false, .slice none 0 0, .int .i64 0, .bool false, .slice none 0 0, .int .i64 0] 29)) = w1 at S n1 n2 ⊢
  have c0_ := S.c3 0 rfl; have c1_ := S.c3 1 rfl; have c2_ := S.c6 2 rfl
  obtain ⟨f2_0, f2_1, f2_2, f2_3, f2_4, f2_5⟩ := S.f6 2 rfl
  have HP := S.put6 2 (.bool b1) (.slice p1 l1 K1) (.int .i64 e1) (.bool b2) (.slice p2 l2 K2) (.int .i64 e2) rfl rfl; have H := HP.2; replace S := HP.1; clear HP
  replace n1 := n1.hold32 H; replace n2 := n2.hold32 H
  clear H; go_wp2_with fail; obtain ⟨d2_0, d2_1, d2_2, d2_3, d2_4, d2_5⟩ := S.c6 2 rfl
  exact bodyPost_ret (v := .tuple #[.agg #[.bool b1, .slice p1 l1 K1, .int .i64 e1, .bool b2, .slice p2 l2 K2, .int .i64 e2], .int .i64 0]) (by simp [results, Tryz.f71, go_sem, d2_0, d2_1, d2_2, d2_3, d2_4, d2_5]) rfl (⟨⟨_, rfl, b1, p1, l1, K1, m1, e1, b2, p2, l2, K2, m2, e2, rfl, h1, n1, d1, h2, n2, d2⟩, S.below⟩)
noncomputable def rq (x : Rat) (n : Nat) (up : Bool) : Rat := open Classical in if h : ∃ p : Int × Int, DyC p.1 p.2 ∧ dq p.1 p.2 = x then rnd h.choose.1 h.choose.2 n up else 0
theorem rq_is {m e : Int} {x : Rat} (n : Nat) (up : Bool) (h : DyC m e) (hx : dq m e = x) : rnd m e n up = rq x n up := by
  have hex : ∃ p : Int × Int, DyC p.1 p.2 ∧ dq p.1 p.2 = x := ⟨(m, e), h, hx⟩
  unfold rq
  rw [dif_pos hex]
  have hc := hex.choose_spec
  obtain ⟨e1, e2⟩ := dyc_uniq h hc.1 (hx.trans hc.2.symm)
  rw [← e1, ← e2]
theorem dround_q {va : Value} {x : Rat} {L H : Nat} {w : World} (hT : Tab w) (ha : IsD w va x L H) (hLH : H + 1 + L ≤ 16384) (n : Nat) (h2 : 2 ≤ n) (h4 : n ≤ 4096) (up : Bool) :
    Calls Tryz.prog 70 #[va, .int .i64 n, .bool up] w fun ev w' => (∃ u, ev = .returned (.tuple #[u, .int .i64 0]) ∧ IsD w' u (rq x n up) L (H + 1)) ∧ Below w.heap.size w w' := by
  obtain ⟨b, p, l, K, m, e, rfl, hb, nm, hd⟩ := ha
  exact dround_any hT hb nm hd hLH n h2 h4 up (rq x n up) (rq_is n up hd.out.1 hd.out.2.2)
set_option maxRecDepth 100000 in
set_option maxHeartbeats 4000000 in
theorem sround_any {va : Value} {x y : Rat} {w : World} {L H : Nat} (hT : Tab w) (ha : IsSp w va x y L H) (hk : H + 1 + L ≤ 16384) (n : Nat) (hn2 : 2 ≤ n) (hn4 : n ≤ 4096) :
    Calls Tryz.prog 19 #[va, .int .i64 n] w fun e w' => (∃ u, e = .returned (.tuple #[u, .int .i64 0]) ∧ IsSp w' u (rq x n false) (rq y n true) L (H + 1)) ∧ Below w.heap.size w w' := by
  obtain ⟨b1, p1, l1, K1, m1, e1, b2, p2, l2, K2, m2, e2, rfl, h1, n1, d1, h2, n2, d2⟩ := ha
  have HK := Lib.hid (And.intro hk (And.intro hn2 (And.intro hn4 hT)))
  clear hk hn2 hn4 hT
  have S := ((St.start w).alloc 29 [.bool b1, .slice p1 l1 K1, .int .i64 e1, .bool b2, .slice p2 l2 K2, .int .i64 e2] (w.heap.size)).alloc 29 [.bool false, .slice none 0 0, .int .i64 0, .bool false, .slice none 0 0, .int .i64 0] (w.heap.size + 1)
  try simp only [List.cons_append, List.nil_append] at S
  replace n1 := n1.hold S.hold; replace n2 := n2.hold S.hold
  have c0_ := S.c6 0 rfl; have c1_ := S.c6 1 rfl
  go_enter Tryz.func19, Tryz.ntmps19
  go_wp2_with fail; clear c0_ c1_
  refine S.cl (dround_q (HK.out.2.2.2.below S.below) ⟨b1, p1, l1, K1, m1, e1, rfl, h1, n1, d1⟩ HK.out.1 n HK.out.2.1 HK.out.2.2.1 false) ?_; clear S; rintro e w1 ⟨_, rfl, b3, p3, l3, K3, m3, e3, rfl, h3, n3, d3⟩ S H
  replace n1 := n1.hold H; replace n2 := n2.hold H
  clear H; have c0_ := S.c6 0 rfl; have c1_ := S.c6 1 rfl
  have H := S.hnew 27 [.bool b3, .slice p3 l3 K3, .int .i64 e3]
  replace S := S.al 27 [.bool b3, .slice p3 l3 K3, .int .i64 e3] (w1.heap.size)
  refine iv3 H n1 n2 n3 ?_; clear n1 n2 n3; intro n1 n2 n3
  clear H; clear c0_ c1_; have c0_ := S.c6 0 rfl; have c1_ := S.c6 1 rfl; have c2_ := S.c3 2 rfl; go_wp2_with fail; clear c0_ c1_ c2_
  refine S.cl (dround_q (HK.out.2.2.2.below S.below) ⟨b2, p2, l2, K2, m2, e2, rfl, h2, n2, d2⟩ HK.out.1 n HK.out.2.1 HK.out.2.2.1 true) ?_; clear S; rintro e w2 ⟨_, rfl, b4, p4, l4, K4, m4, e4, rfl, h4, n4, d4⟩ S H
  refine iv3 H n1 n2 n3 ?_; clear n1 n2 n3; intro n1 n2 n3
  clear H; have c0_ := S.c6 0 rfl; have c1_ := S.c6 1 rfl; have c2_ := S.c3 2 rfl
  have H := S.hnew 27 [.bool b4, .slice p4 l4 K4, .int .i64 e4]
  replace S := S.al 27 [.bool b4, .slice p4 l4 K4, .int .i64 e4] (w2.heap.size)
  refine iv4 H n1 n2 n3 n4 ?_; clear n1 n2 n3 n4; intro n1 n2 n3 n4
  clear H; clear c0_ c1_ c2_; have c0_ := S.c6 0 rfl; have c1_ := S.c6 1 rfl; have c2_ := S.c3 2 rfl; have c3_ := S.c3 3 rfl
  go_upto_region 3 with fail
  clear c0_ c1_ c2_ c3_
  generalize (w2.alloc (.cells #[.bool b4, .slice p4 l4 K4, .int .i64 e4] 27)) = w3 at S n1 n2 n3 n4 ⊢
  have HH := (Hold.drew w3).to32
  refine iw4 HH n1 n2 n3 n4 ?_; clear n1 n2 n3 n4; intro n1 n2 n3 n4
  replace S := S.drew
  refine wp_region_held_drew (S := fun W => W.cell? ⟨w1.heap.size, 0, none⟩ = some (.bool b3) ∧ W.cell? ⟨w1.heap.size, 1, none⟩ = some (.slice p3 l3 K3) ∧ W.cell? ⟨w1.heap.size, 2, none⟩ = some (.int .i64 e3) ∧ W.cell? ⟨w2.heap.size, 0, none⟩ = some (.bool b4) ∧ W.cell? ⟨w2.heap.size, 1, none⟩ = some (.slice p4 l4 K4) ∧ W.cell? ⟨w2.heap.size, 2, none⟩ = some (.int .i64 e4)) (by kernel_rfl) (con3 (S.c3 2 rfl) (S.c3 3 rfl)) (fun hS => ?_)
  generalize w3.drew = w4 at S n1 n2 n3 n4 HH hS ⊢
  refine tk 0 hS ?_
  refine tk 1 hS ?_
  refine tk 2 hS ?_
  refine tk 3 hS ?_
  refine rd 4 fun KK hKK => ?_
  go_simp; clear hS
  have H := S.hnew 36 [.int .i64 0, .int .i64 0]
  replace S := S.al 36 [.int .i64 0, .int .i64 0] (w4.heap.size)
  refine iv4 H n1 n2 n3 n4 ?_; clear n1 n2 n3 n4; intro n1 n2 n3 n4; replace HH := HH.trans H.to32; clear H
  refine ho hKK (con3 (S.c3 2 rfl) (S.c3 3 rfl)) fun hS => ?_
  generalize (w4.alloc (.cells #[.int .i64 0, .int .i64 0] 36)) = w5 at S n1 n2 n3 n4 HH hS ⊢
  clear hKK KK
  refine rd 5 fun KK hKK => ?_
  go_simp; clear hS
  refine S.cl (or_two S 4 rfl) ?_; clear S; rintro e w6 rfl S H
  refine iv4 H n1 n2 n3 n4 ?_; clear n1 n2 n3 n4; intro n1 n2 n3 n4; replace HH := HH.trans H.to32; clear H
  go_wp2_with fail
  refine ho hKK (con3 (S.c3 2 rfl) (S.c3 3 rfl)) fun hS => ?_
  clear hKK KK
  refine rd 6 fun KK hKK => ?_
  go_simp; clear hS
  refine S.cl (sbetween_any ⟨b3, p3, l3, K3, m3, e3, rfl, h3, n3, d3⟩ ⟨b4, p4, l4, K4, m4, e4, rfl, h4, n4, d4⟩) ?_; clear S; rintro e w7 ⟨_, rfl, b5, p5, l5, K5, m5, e5, b6, p6, l6, K6, m6, e6, rfl, h5, n5, d5, h6, n6, d6⟩ S H
  refine iv4 H n1 n2 n3 n4 ?_; clear n1 n2 n3 n4; intro n1 n2 n3 n4; replace HH := HH.trans H.to32; clear H
  go_wp2_with fail
  refine ho hKK (con3 (S.c3 2 rfl) (S.c3 3 rfl)) fun hS => ?_
  clear hKK KK
  refine tk 7 hS ?_
  refine tk 8 hS ?_
  refine rd 9 fun KK hKK => ?_
  obtain ⟨c0, c1, c2, c3, c4, c5⟩ := S.c6 1 rfl; obtain ⟨f0, f1, f2, f3, f4, f5⟩ := S.f6 1 rfl
  go_simp; clear hS c0 f0 c1 f1 c2 f2 c3 f3 c4 f4 c5 f5
  have HP := S.put6 1 (.bool b5) (.slice p5 l5 K5) (.int .i64 e5) (.bool b6) (.slice p6 l6 K6) (.int .i64 e6) rfl rfl; have H := HP.2; replace S := HP.1; clear HP
  refine iw7 H n1 n2 n3 n4 n5 n6 HH ?_; clear n1 n2 n3 n4 n5 n6 HH H; intro n1 n2 n3 n4 n5 n6 HH
  refine ho hKK (con3 (S.c3 2 rfl) (S.c3 3 rfl)) fun hS => ?_
  generalize ((((((w7.setCell ⟨w.heap.size + 1, 0, none⟩ (.bool b5)).setCell ⟨w.heap.size + 1, 1, none⟩ (.slice p5 l5 K5)).setCell ⟨w.heap.size + 1, 2, none⟩ (.int .i64 e5)).setCell ⟨w.heap.size + 1, 3, none⟩ (.bool b6)).setCell ⟨w.heap.size + 1, 4, none⟩ (.slice p6 l6 K6)).setCell ⟨w.heap.size + 1, 5, none⟩ (.int .i64 e6)) = w8 at S n1 n2 n3 n4 n5 n6 HH hS ⊢
  clear hKK KK
  refine rd 10 fun KK hKK => ?_
  go_simp
  refine ho hKK hS fun hS => ?_
  clear hKK KK
  refine wpAnyH_done (by kernel_rfl) ?_ _
  clear hS HH; have c0_ := S.c6 0 rfl; have c1_ := S.c6 1 rfl; have c2_ := S.c3 2 rfl; have c3_ := S.c3 3 rfl; go_wp2_with fail; obtain ⟨d1_0, d1_1, d1_2, d1_3, d1_4, d1_5⟩ := S.c6 1 rfl
  exact bodyPost_ret (v := .tuple #[.agg #[.bool b5, .slice p5 l5 K5, .int .i64 e5, .bool b6, .slice p6 l6 K6, .int .i64 e6], .int .i64 0]) (by simp [results, Tryz.f19, go_sem, d1_0, d1_1, d1_2, d1_3, d1_4, d1_5]) rfl (⟨⟨_, rfl, b5, p5, l5, K5, m5, e5, b6, p6, l6, K6, m6, e6, rfl, h5, n5, d5, h6, n6, d6⟩, S.below⟩)
set_option maxRecDepth 100000 in
set_option maxHeartbeats 4000000 in
theorem sadd_any {va vb : Value} {x y u v : Rat} {w : World} {L H : Nat} (hT : Tab w) (ha : IsSp w va x y L H) (hb : IsSp w vb u v L H) (hk : H + 2 + L ≤ 16384) (n : Nat) (hn2 : 2 ≤ n) (hn4 : n ≤ 4096) :
    Calls Tryz.prog 16 #[va, vb, .int .i64 n] w fun e w' => (∃ z, e = .returned (.tuple #[z, .int .i64 0]) ∧ IsSp w' z (rq (x + u) n false) (rq (y + v) n true) L (H + 2)) ∧ Below w.heap.size w w' := by
  obtain ⟨b1, p1, l1, K1, m1, e1, b2, p2, l2, K2, m2, e2, rfl, h1, n1, d1, h2, n2, d2⟩ := ha
  obtain ⟨b3, p3, l3, K3, m3, e3, b4, p4, l4, K4, m4, e4, rfl, h3, n3, d3, h4, n4, d4⟩ := hb
  have HK := Lib.hid (And.intro (show H + 1 + L ≤ 16384 by omega) (And.intro hn2 (And.intro hn4 (And.intro hT (show H + 1 + 1 + L ≤ 16384 by omega)))))
  clear hk hn2 hn4 hT
  have S := (((St.start w).alloc 29 [.bool b1, .slice p1 l1 K1, .int .i64 e1, .bool b2, .slice p2 l2 K2, .int .i64 e2] (w.heap.size)).alloc 29 [.bool b3, .slice p3 l3 K3, .int .i64 e3, .bool b4, .slice p4 l4 K4, .int .i64 e4] (w.heap.size + 1)).alloc 29 [.bool false, .slice none 0 0, .int .i64 0, .bool false, .slice none 0 0, .int .i64 0] (w.heap.size + 1 + 1)
  try simp only [List.cons_append, List.nil_append] at S
  refine iv4 S.hold n1 n2 n3 n4 ?_; clear n1 n2 n3 n4; intro n1 n2 n3 n4
  have c0_ := S.c6 0 rfl; have c1_ := S.c6 1 rfl; have c2_ := S.c6 2 rfl
  go_enter Tryz.func16, Tryz.ntmps16
  go_wp2_with fail; clear c0_ c1_ c2_
  refine S.cl (dadd_any (HK.out.2.2.2.1.below S.below) ⟨b1, p1, l1, K1, m1, e1, rfl, h1, n1, d1⟩ ⟨b3, p3, l3, K3, m3, e3, rfl, h3, n3, d3⟩ HK.out.1 (x + u) rfl) ?_; clear S; rintro e w1 ⟨_, rfl, b5, p5, l5, K5, m5, e5, rfl, h5, n5, d5⟩ S H
  refine iv4 H n1 n2 n3 n4 ?_; clear n1 n2 n3 n4; intro n1 n2 n3 n4
  clear H; have c0_ := S.c6 0 rfl; have c1_ := S.c6 1 rfl; have c2_ := S.c6 2 rfl
  have H := S.hnew 27 [.bool b5, .slice p5 l5 K5, .int .i64 e5]
  replace S := S.al 27 [.bool b5, .slice p5 l5 K5, .int .i64 e5] (w1.heap.size)
  refine iv5 H n1 n2 n3 n4 n5 ?_; clear n1 n2 n3 n4 n5; intro n1 n2 n3 n4 n5
  clear H; clear c0_ c1_ c2_; have c0_ := S.c6 0 rfl; have c1_ := S.c6 1 rfl; have c2_ := S.c6 2 rfl; have c3_ := S.c3 3 rfl; go_wp2_with fail; clear c0_ c1_ c2_ c3_
  refine S.cl (dadd_any (HK.out.2.2.2.1.below S.below) ⟨b2, p2, l2, K2, m2, e2, rfl, h2, n2, d2⟩ ⟨b4, p4, l4, K4, m4, e4, rfl, h4, n4, d4⟩ HK.out.1 (y + v) rfl) ?_; clear S; rintro e w2 ⟨_, rfl, b6, p6, l6, K6, m6, e6, rfl, h6, n6, d6⟩ S H
  refine iv5 H n1 n2 n3 n4 n5 ?_; clear n1 n2 n3 n4 n5; intro n1 n2 n3 n4 n5
  clear H; have c0_ := S.c6 0 rfl; have c1_ := S.c6 1 rfl; have c2_ := S.c6 2 rfl; have c3_ := S.c3 3 rfl
  have H := S.hnew 27 [.bool b6, .slice p6 l6 K6, .int .i64 e6]
  replace S := S.al 27 [.bool b6, .slice p6 l6 K6, .int .i64 e6] (w2.heap.size)
  refine iv6 H n1 n2 n3 n4 n5 n6 ?_; clear n1 n2 n3 n4 n5 n6; intro n1 n2 n3 n4 n5 n6
  clear H; clear c0_ c1_ c2_ c3_; have c3_ := S.c3 3 rfl; have c4_ := S.c3 4 rfl
  have H := S.hnew 36 [.int .i64 0, .int .i64 0]
  replace S := S.al 36 [.int .i64 0, .int .i64 0] (w2.heap.size + 1)
  refine iv6 H n1 n2 n3 n4 n5 n6 ?_; clear n1 n2 n3 n4 n5 n6; intro n1 n2 n3 n4 n5 n6
  clear H; go_wp2_with fail; clear c3_ c4_
  refine S.cl (or_two S 5 rfl) ?_; clear S; rintro e w3 rfl S H
  refine iv6 H n1 n2 n3 n4 n5 n6 ?_; clear n1 n2 n3 n4 n5 n6; intro n1 n2 n3 n4 n5 n6
  clear H; have c3_ := S.c3 3 rfl; have c4_ := S.c3 4 rfl; go_wp2_with fail; clear c3_ c4_
  refine S.cl (sround_any (HK.out.2.2.2.1.below S.below) ⟨b5, p5, l5, K5, m5, e5, b6, p6, l6, K6, m6, e6, rfl, h5, n5, d5, h6, n6, d6⟩ HK.out.2.2.2.2 n HK.out.2.1 HK.out.2.2.1) ?_; clear S; rintro e w4 ⟨_, rfl, b7, p7, l7, K7, m7, e7, b8, p8, l8, K8, m8, e8, rfl, h7, n7, d7, h8, n8, d8⟩ S H
  refine iv6 H n1 n2 n3 n4 n5 n6 ?_; clear n1 n2 n3 n4 n5 n6; intro n1 n2 n3 n4 n5 n6
  clear H; have c3_ := S.c3 3 rfl; have c4_ := S.c3 4 rfl; clear c3_ c4_; have c2_ := S.c6 2 rfl
  obtain ⟨f2_0, f2_1, f2_2, f2_3, f2_4, f2_5⟩ := S.f6 2 rfl
  have HP := S.put6 2 (.bool b7) (.slice p7 l7 K7) (.int .i64 e7) (.bool b8) (.slice p8 l8 K8) (.int .i64 e8) rfl rfl; have H := HP.2; replace S := HP.1; clear HP
  refine iw8 H n1 n2 n3 n4 n5 n6 n7 n8 ?_; clear n1 n2 n3 n4 n5 n6 n7 n8; intro n1 n2 n3 n4 n5 n6 n7 n8
  clear H; go_wp2_with fail; obtain ⟨d2_0, d2_1, d2_2, d2_3, d2_4, d2_5⟩ := S.c6 2 rfl
  exact bodyPost_ret (v := .tuple #[.agg #[.bool b7, .slice p7 l7 K7, .int .i64 e7, .bool b8, .slice p8 l8 K8, .int .i64 e8], .int .i64 0]) (by simp [results, Tryz.f16, go_sem, d2_0, d2_1, d2_2, d2_3, d2_4, d2_5]) rfl (⟨⟨_, rfl, b7, p7, l7, K7, m7, e7, b8, p8, l8, K8, m8, e8, rfl, h7, n7, d7, h8, n8, d8⟩, S.below⟩)
set_option maxRecDepth 100000 in
set_option maxHeartbeats 4000000 in
theorem ssub_any {va vb : Value} {x y u v : Rat} {w : World} {L H : Nat} (hT : Tab w) (ha : IsSp w va x y L H) (hb : IsSp w vb u v L H) (hk : H + 2 + L ≤ 16384) (n : Nat) (hn2 : 2 ≤ n) (hn4 : n ≤ 4096) :
    Calls Tryz.prog 17 #[va, vb, .int .i64 n] w fun e w' => (∃ z, e = .returned (.tuple #[z, .int .i64 0]) ∧ IsSp w' z (rq (x + -v) n false) (rq (y + -u) n true) L (H + 2)) ∧ Below w.heap.size w w' := by
  obtain ⟨b1, p1, l1, K1, m1, e1, b2, p2, l2, K2, m2, e2, rfl, h1, n1, d1, h2, n2, d2⟩ := ha
  obtain ⟨b3, p3, l3, K3, m3, e3, b4, p4, l4, K4, m4, e4, rfl, h3, n3, d3, h4, n4, d4⟩ := hb
  have HK := Lib.hid (And.intro (show H + L ≤ 16384 by omega) (And.intro hn2 (And.intro hn4 (And.intro hT hk))))
  clear hk hn2 hn4 hT
  have S := (((St.start w).alloc 29 [.bool b1, .slice p1 l1 K1, .int .i64 e1, .bool b2, .slice p2 l2 K2, .int .i64 e2] (w.heap.size)).alloc 29 [.bool b3, .slice p3 l3 K3, .int .i64 e3, .bool b4, .slice p4 l4 K4, .int .i64 e4] (w.heap.size + 1)).alloc 29 [.bool false, .slice none 0 0, .int .i64 0, .bool false, .slice none 0 0, .int .i64 0] (w.heap.size + 1 + 1)
  try simp only [List.cons_append, List.nil_append] at S
  refine iv4 S.hold n1 n2 n3 n4 ?_; clear n1 n2 n3 n4; intro n1 n2 n3 n4
  have c0_ := S.c6 0 rfl; have c1_ := S.c6 1 rfl; have c2_ := S.c6 2 rfl
  go_enter Tryz.func17, Tryz.ntmps17
  go_upto_region 1 with fail
  clear c0_ c1_ c2_
  generalize (((w.alloc (.cells #[.bool b1, .slice p1 l1 K1, .int .i64 e1, .bool b2, .slice p2 l2 K2, .int .i64 e2] 29)).alloc (.cells #[.bool b3, .slice p3 l3 K3, .int .i64 e3, .bool b4, .slice p4 l4 K4, .int .i64 e4] 29)).alloc (.cells #[.bool false, .slice none 0 0, .int .i64 0, .bool false, .slice none 0 0, .int .i64 0] 29)) = w1 at S n1 n2 n3 n4 ⊢
  have HH := (Hold.drew w1).to32
  refine iw4 HH n1 n2 n3 n4 ?_; clear n1 n2 n3 n4; intro n1 n2 n3 n4
  replace S := S.drew
  refine wp_region_held_drew (S := fun W => W.cell? ⟨w.heap.size, 0, none⟩ = some (.bool b1) ∧ W.cell? ⟨w.heap.size, 1, none⟩ = some (.slice p1 l1 K1) ∧ W.cell? ⟨w.heap.size, 2, none⟩ = some (.int .i64 e1) ∧ W.cell? ⟨w.heap.size, 3, none⟩ = some (.bool b2) ∧ W.cell? ⟨w.heap.size, 4, none⟩ = some (.slice p2 l2 K2) ∧ W.cell? ⟨w.heap.size, 5, none⟩ = some (.int .i64 e2) ∧ W.cell? ⟨w.heap.size + 1, 0, none⟩ = some (.bool b3) ∧ W.cell? ⟨w.heap.size + 1, 1, none⟩ = some (.slice p3 l3 K3) ∧ W.cell? ⟨w.heap.size + 1, 2, none⟩ = some (.int .i64 e3) ∧ W.cell? ⟨w.heap.size + 1, 3, none⟩ = some (.bool b4) ∧ W.cell? ⟨w.heap.size + 1, 4, none⟩ = some (.slice p4 l4 K4) ∧ W.cell? ⟨w.heap.size + 1, 5, none⟩ = some (.int .i64 e4)) (by kernel_rfl) (con6 (S.c6 0 rfl) (S.c6 1 rfl)) (fun hS => ?_)
  generalize w1.drew = w2 at S n1 n2 n3 n4 HH hS ⊢
  refine tk 0 hS ?_
  refine tk 1 hS ?_
  refine tk 3 hS ?_
  refine rd 2 fun KK hKK => ?_
  go_simp; clear hS
  refine S.cl (sneg_any ⟨b3, p3, l3, K3, m3, e3, b4, p4, l4, K4, m4, e4, rfl, h3, n3, d3, h4, n4, d4⟩ HK.out.1) ?_; clear S; rintro e w3 ⟨_, rfl, b5, p5, l5, K5, m5, e5, b6, p6, l6, K6, m6, e6, rfl, h5, n5, d5, h6, n6, d6⟩ S H
  refine iv4 H n1 n2 n3 n4 ?_; clear n1 n2 n3 n4; intro n1 n2 n3 n4; replace HH := HH.trans H.to32; clear H
  go_wp2_with fail
  refine ho hKK (con6 (S.c6 0 rfl) (S.c6 1 rfl)) fun hS => ?_
  clear hKK KK
  refine rd 4 fun KK hKK => ?_
  go_simp; clear hS
  refine S.cl (sadd_any (HK.out.2.2.2.1.below S.below) ⟨b1, p1, l1, K1, m1, e1, b2, p2, l2, K2, m2, e2, rfl, h1, n1, d1, h2, n2, d2⟩ ⟨b5, p5, l5, K5, m5, e5, b6, p6, l6, K6, m6, e6, rfl, h5, n5, d5, h6, n6, d6⟩ HK.out.2.2.2.2 n HK.out.2.1 HK.out.2.2.1) ?_; clear S; rintro e w4 ⟨_, rfl, b7, p7, l7, K7, m7, e7, b8, p8, l8, K8, m8, e8, rfl, h7, n7, d7, h8, n8, d8⟩ S H
  refine iv6 H n1 n2 n3 n4 n5 n6 ?_; clear n1 n2 n3 n4 n5 n6; intro n1 n2 n3 n4 n5 n6; replace HH := HH.trans H.to32; clear H
  go_wp2_with fail
  refine ho hKK (con6 (S.c6 0 rfl) (S.c6 1 rfl)) fun hS => ?_
  clear hKK KK
  refine tk 5 hS ?_
  refine tk 6 hS ?_
  refine rd 7 fun KK hKK => ?_
  obtain ⟨c0, c1, c2, c3, c4, c5⟩ := S.c6 2 rfl; obtain ⟨f0, f1, f2, f3, f4, f5⟩ := S.f6 2 rfl
  go_simp; clear hS c0 f0 c1 f1 c2 f2 c3 f3 c4 f4 c5 f5
  have HP := S.put6 2 (.bool b7) (.slice p7 l7 K7) (.int .i64 e7) (.bool b8) (.slice p8 l8 K8) (.int .i64 e8) rfl rfl; have H := HP.2; replace S := HP.1; clear HP
  refine iw8 H n1 n2 n3 n4 n5 n6 n7 n8 ?_; clear n1 n2 n3 n4 n5 n6 n7 n8; intro n1 n2 n3 n4 n5 n6 n7 n8; replace HH := HH.trans H; clear H
  refine ho hKK (con6 (S.c6 0 rfl) (S.c6 1 rfl)) fun hS => ?_
  generalize ((((((w4.setCell ⟨w.heap.size + 1 + 1, 0, none⟩ (.bool b7)).setCell ⟨w.heap.size + 1 + 1, 1, none⟩ (.slice p7 l7 K7)).setCell ⟨w.heap.size + 1 + 1, 2, none⟩ (.int .i64 e7)).setCell ⟨w.heap.size + 1 + 1, 3, none⟩ (.bool b8)).setCell ⟨w.heap.size + 1 + 1, 4, none⟩ (.slice p8 l8 K8)).setCell ⟨w.heap.size + 1 + 1, 5, none⟩ (.int .i64 e8)) = w5 at S n1 n2 n3 n4 n5 n6 n7 n8 HH hS ⊢
  clear hKK KK
  refine rd 8 fun KK hKK => ?_
  go_simp
  refine ho hKK hS fun hS => ?_
  clear hKK KK
  refine wpAnyH_done (by kernel_rfl) ?_ _
  clear hS HH; have c0_ := S.c6 0 rfl; have c1_ := S.c6 1 rfl; have c2_ := S.c6 2 rfl; go_wp2_with fail; obtain ⟨d2_0, d2_1, d2_2, d2_3, d2_4, d2_5⟩ := S.c6 2 rfl
  exact bodyPost_ret (v := .tuple #[.agg #[.bool b7, .slice p7 l7 K7, .int .i64 e7, .bool b8, .slice p8 l8 K8, .int .i64 e8], .int .i64 0]) (by simp [results, Tryz.f17, go_sem, d2_0, d2_1, d2_2, d2_3, d2_4, d2_5]) rfl (⟨⟨_, rfl, b7, p7, l7, K7, m7, e7, b8, p8, l8, K8, m8, e8, rfl, h7, n7, d7, h8, n8, d8⟩, S.below⟩)
noncomputable def sumQ (X : Nat → Rat) (bits : Nat) (up : Bool) : Nat → Rat
  | 0 => 0
  | k + 1 => rq (sumQ X bits up k + X k) bits up
structure SpC where
  (b c : Bool) (p q : Option Addr) (l K k J : Nat) (m e n f : Int)
def SpansAt (w : World) (g n : Nat) (C : Nat → SpC) (X Y : Nat → Rat) (L H : Nat) : Prop :=
  g < w.heap.size ∧ ∀ j, j < n → w.cell? ⟨g, j * 6, none⟩ = some (.bool (C j).b) ∧ w.cell? ⟨g, j * 6 + 1, none⟩ = some (.slice (C j).p (C j).l (C j).K) ∧ w.cell? ⟨g, j * 6 + 2, none⟩ = some (.int .i64 (C j).e) ∧ w.cell? ⟨g, j * 6 + 3, none⟩ = some (.bool (C j).c) ∧ w.cell? ⟨g, j * 6 + 4, none⟩ = some (.slice (C j).q (C j).k (C j).J) ∧ w.cell? ⟨g, j * 6 + 5, none⟩ = some (.int .i64 (C j).f) ∧
    negB (C j).m = (C j).b ∧ IsNat w (.slice (C j).p (C j).l (C j).K) (C j).m.natAbs ∧ DyF (C j).m (C j).e (X j) L H ∧ negB (C j).n = (C j).c ∧ IsNat w (.slice (C j).q (C j).k (C j).J) (C j).n.natAbs ∧ DyF (C j).n (C j).f (Y j) L H
set_option maxRecDepth 100000 in
set_option maxHeartbeats 4000000 in
theorem ssum_any (g n : Nat) (C : Nat → SpC) (X Y : Nat → Rat) (L H : Nat) (w : World) (hT : Tab w) (h : SpansAt w g n C X Y L H) (bits : Nat) (hn2 : 2 ≤ bits) (hn4 : bits ≤ 4096) (hn : n ≤ 100) (hc : H + 2 * n + L ≤ 16384) :
    Calls Tryz.prog 24 #[.int .i64 bits, .slice (some ⟨g, 0, none⟩) n n] w fun e w' => (∃ u, e = .returned (.tuple #[u, .int .i64 0]) ∧ IsSp w' u (sumQ X bits false n) (sumQ Y bits true n) L (H + 2 * n)) ∧ Below w.heap.size w w' := by
  have HZ := Lib.hid (And.intro hT (And.intro hn2 (And.intro hn4 hc)))
  have HI := Lib.hid h
  clear hT hc h hn2 hn4
  have S := (St.start w).alloc 29 [.bool false, .slice none 0 0, .int .i64 0, .bool false, .slice none 0 0, .int .i64 0] (w.heap.size)
  try simp only [List.nil_append] at S
  have c0_ := S.c6 0 rfl
  go_enter Tryz.func24, Tryz.ntmps24
  have H := S.hnew 29 [.bool false, .slice none 0 0, .int .i64 0, .bool false, .slice none 0 0, .int .i64 0]
  replace S := S.al 29 [.bool false, .slice none 0 0, .int .i64 0, .bool false, .slice none 0 0, .int .i64 0] (w.heap.size + 1)
  clear H; go_wp2_with fail; clear c0_
  go_loopw [12] (fun si wr => ∃ k : Nat, k ≤ n ∧ si = .int .i64 k ∧ ∃ b p l1 K1 m e c q j J n' f, Hid (negB m = b) ∧ IsNat wr (.slice p l1 K1) m.natAbs ∧ Hid (DyF m e (sumQ X bits false k) L (H + 2 * k)) ∧ Hid (negB n' = c) ∧ IsNat wr (.slice q j J) n'.natAbs ∧ Hid (DyF n' f (sumQ Y bits true k) L (H + 2 * k)) ∧ St w wr [(w.heap.size, 29, [.bool false, .slice none 0 0, .int .i64 0, .bool false, .slice none 0 0, .int .i64 0]), (w.heap.size + 1, 29, [.bool b, .slice p l1 K1, .int .i64 e, .bool c, .slice q j J, .int .i64 f])]) (fun si _ => n - (intOf si).toNat)
  case atStart => exact ⟨0, by omega, rfl, _, _, _, _, 0, _, _, _, _, _, 0, _, rfl, IsNat.zero _, DyF.zero _ _, rfl, IsNat.zero _, DyF.zero _ _, S⟩
  case round =>
    clear S
    obtain ⟨k, hk, rfl, b, p, l1, K1, m, e, c, q, j, J, n', f, h1, n1, d1, h2, n2, d2, S⟩ := hrel
    by_cases hlt : k < n
    · obtain ⟨a0, a1, a2, a3, a4, a5, i1, i2, i3, i4, i5, i6⟩ := HI.out.2 k hlt
      have hgb := HI.out.1
      replace a0 := (S.below.cell (p := ⟨g, k * 6, none⟩) hgb).trans a0
      replace a1 := (S.below.cell (p := ⟨g, k * 6 + 1, none⟩) hgb).trans a1
      replace a2 := (S.below.cell (p := ⟨g, k * 6 + 2, none⟩) hgb).trans a2
      replace a3 := (S.below.cell (p := ⟨g, k * 6 + 3, none⟩) hgb).trans a3
      replace a4 := (S.below.cell (p := ⟨g, k * 6 + 4, none⟩) hgb).trans a4
      replace a5 := (S.below.cell (p := ⟨g, k * 6 + 5, none⟩) hgb).trans a5
      have n3 := i2.below S.below (Nat.le_refl _)
      have n4 := i5.below S.below (Nat.le_refl _)
      have h3 := Lib.hid i1
      have h4 := Lib.hid i4
      have d3 := Lib.hid (i3.mono (Nat.le_refl L) (show H ≤ H + 2 * k by omega))
      have d4 := Lib.hid (i6.mono (Nat.le_refl L) (show H ≤ H + 2 * k by omega))
      have HL := Lib.hid (And.intro hlt (show H + 2 * k + 2 + L ≤ 16384 by have := HZ.out.2.2.2; omega))
      have hki : (k : Int) < ((n : Nat) : Int) := by omega
      clear i1 i2 i3 i4 i5 i6 hgb hlt
      obtain ⟨⟨b3, c3, p3, q3, l3, K3, k3, J3, m3, e3, m4, e4⟩, hC⟩ : ∃ z, C k = z := ⟨_, rfl⟩
      rw [hC] at a0 a1 a2 a3 a4 a5 n3 n4 h3 h4 d3 d4
      clear hC
      dsimp only at a0 a1 a2 a3 a4 a5 n3 n4 h3 h4 d3 d4
      have H := S.hnew 29 [.bool b3, .slice p3 l3 K3, .int .i64 e3, .bool c3, .slice q3 k3 J3, .int .i64 e4]
      replace S := S.al 29 [.bool b3, .slice p3 l3 K3, .int .i64 e3, .bool c3, .slice q3 k3 J3, .int .i64 e4] (wr.heap.size)
      refine iv4 H n1 n2 n3 n4 ?_; clear n1 n2 n3 n4; intro n1 n2 n3 n4
      clear H; have c0_ := S.c6 0 rfl; have c1_ := S.c6 1 rfl; have c2_ := S.c6 2 rfl; go_wp2_with fail; clear c0_ c1_ c2_
      refine S.cl (sadd_any (HZ.out.1.below S.below) ⟨b, p, l1, K1, m, e, c, q, j, J, n', f, rfl, h1, n1, d1, h2, n2, d2⟩ ⟨b3, p3, l3, K3, m3, e3, c3, q3, k3, J3, m4, e4, rfl, h3, n3, d3, h4, n4, d4⟩ HL.out.2 bits HZ.out.2.1 HZ.out.2.2.1) ?_; clear S; rintro e w21 ⟨_, rfl, b7, p7, l7, K7, m7, e7, b8, p8, l8, K8, m8, e8, rfl, h7, n7, d7, h8, n8, d8⟩ S H
      refine iv4 H n1 n2 n3 n4 ?_; clear n1 n2 n3 n4; intro n1 n2 n3 n4
      clear H; have c0_ := S.c6 0 rfl; have c1_ := S.c6 1 rfl; have c2_ := S.c6 2 rfl; clear c0_ c1_ c2_; have c1_ := S.c6 1 rfl
      obtain ⟨f1_0, f1_1, f1_2, f1_3, f1_4, f1_5⟩ := S.f6 1 rfl
      have HP := S.put6 1 (.bool b7) (.slice p7 l7 K7) (.int .i64 e7) (.bool b8) (.slice p8 l8 K8) (.int .i64 e8) rfl rfl; have H := HP.2; replace S := HP.1; clear HP
      refine iw6 H n1 n2 n3 n4 n7 n8 ?_; clear n1 n2 n3 n4 n7 n8; intro n1 n2 n3 n4 n7 n8
      clear H; go_wp2_with fail
      replace S := S.take 2 (L := [(w.heap.size, 29, [.bool false, .slice none 0 0, .int .i64 0, .bool false, .slice none 0 0, .int .i64 0]), (w.heap.size+1, 29, [.bool b7, .slice p7 l7 K7, .int .i64 e7, .bool b8, .slice p8 l8 K8, .int .i64 e8])]) rfl
      go_roundw
      case rel => exact ⟨k + 1, HL.out.1, by go_num, _, _, _, _, _, _, _, _, _, _, _, _, h7, n7, d7.out.mono (Nat.le_refl _) (by omega), h8, n8, d8.out.mono (Nat.le_refl _) (by omega), S⟩
      case measure => have := HL.out.1; simp [intOf]; omega
    · have hki : ¬ (k : Int) < ((n : Nat) : Int) := by omega
      have HK := Lib.hid (show k = n by omega)
      clear hlt; have c0_ := S.c6 0 rfl; have c1_ := S.c6 1 rfl
      obtain ⟨f0_0, f0_1, f0_2, f0_3, f0_4, f0_5⟩ := S.f6 0 rfl
      have HP := S.put6 0 (.bool b) (.slice p l1 K1) (.int .i64 e) (.bool c) (.slice q j J) (.int .i64 f) rfl rfl; have H := HP.2; replace S := HP.1; clear HP
      replace n1 := n1.hold32 H; replace n2 := n2.hold32 H
      clear H; go_wp2_with fail; obtain ⟨d0_0, d0_1, d0_2, d0_3, d0_4, d0_5⟩ := S.c6 0 rfl
      exact bodyPost_ret (v := .tuple #[.agg #[.bool b, .slice p l1 K1, .int .i64 e, .bool c, .slice q j J, .int .i64 f], .int .i64 0]) (by simp [results, Tryz.f24, go_sem, d0_0, d0_1, d0_2, d0_3, d0_4, d0_5]) rfl (⟨⟨_, rfl, by rw [← HK.out]; exact ⟨b, p, l1, K1, m, e, c, q, j, J, n', f, rfl, h1, n1, d1, h2, n2, d2⟩⟩, S.below⟩)
theorem canon_ex (z f : Int) : ∃ m e : Int, DyC m e ∧ dq m e = dq z f := by
  by_cases h0 : z = 0
  · subst h0
    exact ⟨0, 0, .inl ⟨rfl, rfl⟩, by rw [dq_zero, dq_zero]⟩
  · obtain ⟨t, ht⟩ := tail_ex z.natAbs (by omega)
    obtain ⟨o, h1, h2, _, _⟩ := tail_odd h0 ht
    exact ⟨o, f + t, .inr h1, by conv => rhs; rw [h2]
                                 rw [dq_shift]⟩
def DyX (x : Rat) : Prop := ∃ m e, DyC m e ∧ dq m e = x
theorem dyx_dq (m e : Int) : DyX (dq m e) := by
  obtain ⟨p, f, h1, h2⟩ := canon_ex m e
  exact ⟨p, f, h1, h2⟩
theorem DyX.neg {x : Rat} (h : DyX x) : DyX (-x) := by
  obtain ⟨m, e, _, rfl⟩ := h
  rw [dq_neg]; exact dyx_dq _ _
theorem DyX.mul {x y : Rat} (h : DyX x) (g : DyX y) : DyX (x * y) := by
  obtain ⟨m, e, _, rfl⟩ := h
  obtain ⟨n, f, _, rfl⟩ := g
  rw [dq_mul]; exact dyx_dq _ _
theorem DyX.add {x y : Rat} (h : DyX x) (g : DyX y) : DyX (x + y) := by
  obtain ⟨m, e, _, rfl⟩ := h
  obtain ⟨n, f, _, rfl⟩ := g
  by_cases hef : e ≤ f
  · obtain ⟨k, hk⟩ : ∃ k : Nat, f = e + k := ⟨(f - e).toNat, by omega⟩
    rw [hk, ← dq_shift, dq_add]; exact dyx_dq _ _
  · obtain ⟨k, hk⟩ : ∃ k : Nat, e = f + k := ⟨(e - f).toNat, by omega⟩
    rw [hk, ← dq_shift, dq_add]; exact dyx_dq _ _
theorem DyC.neg {m e : Int} (h : DyC m e) : DyC (-m) e := by
  rcases h with ⟨h1, h2⟩ | h
  · exact .inl ⟨by omega, h2⟩
  · exact .inr (by omega)
theorem min2_le (x y : Rat) : min2 x y ≤ x ∧ min2 x y ≤ y := by unfold min2; split <;> constructor <;> grind
theorem max2_ge (x y : Rat) : x ≤ max2 x y ∧ y ≤ max2 x y := by unfold max2; split <;> constructor <;> grind
theorem min2_or (x y : Rat) : min2 x y = x ∨ min2 x y = y := by unfold min2; split <;> simp
theorem max2_or (x y : Rat) : max2 x y = x ∨ max2 x y = y := by unfold max2; split <;> simp
def loM (x y u v : Rat) : Rat := min2 (min2 (min2 (x * u) (x * v)) (y * u)) (y * v)
def hiM (x y u v : Rat) : Rat := max2 (max2 (max2 (x * u) (x * v)) (y * u)) (y * v)
theorem zf_small {n e : Int} (hn0 : -9223372036854775808 ≤ n) (hn1 : n ≤ 9223372036854775807) (he0 : -100 ≤ e) (he1 : e ≤ 100) : ZF n e 100 164 :=
  ZF.of (n := 64) (by rw [PB_is, show (2 : Nat) ^ 64 = 18446744073709551616 by decide]; omega) he0 (by omega)
set_option maxRecDepth 100000 in
set_option maxHeartbeats 4000000 in
theorem dof_any (n e : Int) (w : World) (hT : Tab w) (hn0 : -9223372036854775808 ≤ n) (hn1 : n ≤ 9223372036854775807) (he0 : -100 ≤ e) (he1 : e ≤ 100) (x : Rat) (hx : dq n e = x) :
    Calls Tryz.prog 59 #[.int .i64 n, .int .i64 e] w fun ev w' => (∃ u, ev = .returned u ∧ IsD w' u x 100 164) ∧ Below w.heap.size w w' := by
  have hmax : max e (-100) = e := by omega
  have hmin : min e 100 = e := by omega
  have HD := Lib.hid (And.intro hT (And.intro (zf_small hn0 hn1 he0 he1) (And.intro hx (And.intro hn0 hn1))))
  clear hT hx hn0 hn1 he0 he1
  have S := (St.start w).alloc 27 [.bool false, .slice none 0 0, .int .i64 0] (w.heap.size)
  try simp only [List.nil_append] at S
  have c0_ := S.c3 0 rfl
  go_enter Tryz.func59, Tryz.ntmps59
  go_wp2_with fail; clear c0_
  refine S.cl (wof_any n _ HD.out.2.2.2.1 HD.out.2.2.2.2) ?_; clear S; rintro e w1 ⟨_, rfl, p, l, K, rfl, nn⟩ S H
  clear H; have c0_ := S.c3 0 rfl; go_wp2_with fail; clear c0_
  refine S.cl (dmake_any (HD.out.1.below S.below) ⟨_, _, _, rfl, nn⟩ HD.out.2.1 (by decide) x HD.out.2.2.1) ?_; clear S; rintro e w2 ⟨_, rfl, b3, p3, l3, K3, m3, e3, rfl, h3, n3, d3⟩ S H
  replace nn := nn.hold H; clear H; have c0_ := S.c3 0 rfl
  have H := S.hnew 27 [.bool b3, .slice p3 l3 K3, .int .i64 e3]
  replace S := S.al 27 [.bool b3, .slice p3 l3 K3, .int .i64 e3] (w2.heap.size)
  replace nn := nn.hold H; replace n3 := n3.hold H
  clear H; clear c0_; have c0_ := S.c3 0 rfl; have c1_ := S.c3 1 rfl
  obtain ⟨f0_0, f0_1, f0_2⟩ := S.f3 0 rfl
  have HP := S.put3 0 (.bool b3) (.slice p3 l3 K3) (.int .i64 e3) rfl rfl; have H := HP.2; replace S := HP.1; clear HP
  replace nn := nn.hold32 H; replace n3 := n3.hold32 H
  clear H; go_wp2_with fail; obtain ⟨d0_0, d0_1, d0_2⟩ := S.c3 0 rfl
  exact bodyPost_ret (v := .agg #[.bool b3, .slice p3 l3 K3, .int .i64 e3]) (by simp [results, Tryz.f59, go_sem, d0_0, d0_1, d0_2]) rfl (⟨⟨_, rfl, b3, p3, l3, K3, m3, e3, rfl, h3, n3, d3⟩, S.below⟩)
theorem tail_none {m : Int} {t : Nat} (hm : m % 2 = 1) (h : TailIs m.natAbs t) : t = 0 := by
  obtain ⟨o, h1, h2, _, _⟩ := tail_odd (by omega) h
  cases t with
  | zero => rfl
  | succ t =>
    rw [Nat.pow_succ, Int.natCast_mul, ← Int.mul_assoc] at h2
    omega
set_option maxRecDepth 100000 in
set_option maxHeartbeats 4000000 in
theorem dcheck_any {va : Value} {x : Rat} {L H : Nat} {w : World} (hT : Tab w) (ha : IsD w va x L H) (hLH : H + L ≤ 16384) :
    Calls Tryz.prog 129 #[va] w fun ev w' => ev = .returned (.int .i64 0) ∧ Below w.heap.size w w' := by
  obtain ⟨b, p, l, K, m, e, rfl, hb, nm, hd⟩ := ha
  have hex := hd.out.exp
  have HD := Lib.hid (And.intro hT (And.intro (hd.out.max hLH) (show -65536 ≤ e ∧ e ≤ 65536 by omega)))
  clear hT hLH hex
  rcases hd.out.1 with ⟨h0, he⟩ | h1
  · subst h0
    subst he
    clear hd
    have S := (St.start w).alloc 27 [.bool b, .slice p l K, .int .i64 0] (w.heap.size)
    try simp only [List.nil_append] at S
    replace nm := nm.hold S.hold
    have c0_ := S.c3 0 rfl
    go_enter Tryz.func129, Tryz.ntmps129
    go_wp2_with fail; clear c0_
    refine S.cl (wcheck_any ⟨_, _, _, by rw [hb.out], nm⟩ HD.out.2.1) ?_; clear S; rintro e w1 rfl S H
    replace nm := nm.hold H; clear H; have c0_ := S.c3 0 rfl; go_wp2_with fail; clear c0_
    refine S.cl (wsign_any (z := 0) (s := 0) ⟨_, _, _, by rw [hb.out], nm⟩ HD.out.2.1 rfl) ?_; clear S; rintro e w2 rfl S H
    replace nm := nm.hold H; clear H; have c0_ := S.c3 0 rfl; go_wp2_with fail; clear c0_
    refine S.cl (exp_in 0 _ (by decide) (by decide)) ?_; clear S; rintro e w3 rfl S H
    replace nm := nm.hold H; clear H; have c0_ := S.c3 0 rfl; go_wp2_with fail
    exact bodyPost_ret (v := .int .i64 0) (by simp [results, Tryz.f129, go_sem]) rfl (⟨rfl, S.below⟩)
  · obtain ⟨s, hs⟩ : ∃ s, m.sign = s := ⟨_, rfl⟩
    have hs1 : (s == 0) = false := by
      rw [← hs]
      have hne : m ≠ 0 := by omega
      simpa using hne
    have HS := Lib.hid (And.intro hs h1)
    clear hs h1
    have S := (St.start w).alloc 27 [.bool b, .slice p l K, .int .i64 e] (w.heap.size)
    try simp only [List.nil_append] at S
    replace nm := nm.hold S.hold
    have c0_ := S.c3 0 rfl
    go_enter Tryz.func129, Tryz.ntmps129
    go_wp2_with fail; clear c0_
    refine S.cl (wcheck_any ⟨_, _, _, by rw [hb.out], nm⟩ HD.out.2.1) ?_; clear S; rintro e w1 rfl S H
    replace nm := nm.hold H; clear H; have c0_ := S.c3 0 rfl; go_wp2_with fail; clear c0_
    refine S.cl (wsign_any ⟨_, _, _, by rw [hb.out], nm⟩ HD.out.2.1 HS.out.1) ?_; clear S; rintro e w2 rfl S H
    replace nm := nm.hold H; clear H; have c0_ := S.c3 0 rfl; go_wp2_with fail; clear c0_
    refine S.cl (exp_in e _ HD.out.2.2.1 HD.out.2.2.2) ?_; clear S; rintro e w3 rfl S H
    replace nm := nm.hold H; clear H; have c0_ := S.c3 0 rfl; go_wp2_with fail; clear c0_
    refine S.cl (tail_nat' nm HD.out.2.1 (HD.out.1.below S.below)) ?_; clear S; rintro e w4 ⟨t, rfl, ht⟩ S H
    replace nm := nm.hold H; clear H; have c0_ := S.c3 0 rfl
    obtain rfl := tail_none HS.out.2 ht.out
    clear ht; go_wp2_with fail
    exact bodyPost_ret (v := .int .i64 0) (by simp [results, Tryz.f129, go_sem]) rfl (⟨rfl, S.below⟩)
def ValidD (b : Bool) (ds : List Nat) (e : Int) : Prop := cut ds = ds ∧ (b = true → ds ≠ []) ∧ (-65536 ≤ e ∧ e ≤ 65536) ∧ ((val 4294967296 ds = 0 ∧ e = 0) ∨ val 4294967296 ds % 2 = 1)
set_option maxRecDepth 100000 in
set_option maxHeartbeats 4000000 in
theorem dcheck_raw (b : Bool) (p : Option Addr) (K l : Nat) (ds : List Nat) (e : Int) (w : World) (hT : Tab w) (hat : At .u32 w p K ds) (hd : Dig 4294967296 ds) (hl : ds.length = l) (hl5 : l ≤ 512) :
    Calls Tryz.prog 129 #[.agg #[.bool b, .slice p l K, .int .i64 e]] w fun ev w' => (∃ c : Int, ev = .returned (.int .i64 c) ∧ Hid (c = 0 → ValidD b ds e)) ∧ Below w.heap.size w w' := by
  have HD := Lib.hid (And.intro hT (And.intro hd (And.intro hl hl5)))
  clear hT hd hl hl5
  have S := (St.start w).alloc 27 [.bool b, .slice p l K, .int .i64 e] (w.heap.size)
  try simp only [List.nil_append] at S
  replace hat := hat.hold S.hold
  have c0_ := S.c3 0 rfl
  go_enter Tryz.func129, Tryz.ntmps129
  go_wp2_with fail; clear c0_
  refine S.cl (wcheck_raw b p K l ds _ hat HD.out.2.1 HD.out.2.2.1 HD.out.2.2.2) ?_; clear S; rintro e w1 ⟨c, rfl, hc⟩ S H
  replace hat := hat.hold H; clear H; have c0_ := S.c3 0 rfl
  by_cases h0 : c = 0
  · have h0' : (c != 0) = false := by rw [h0]; rfl
    have hv := hc.out h0
    have hn : IsNat w1 (.slice p l K) (val 4294967296 ds) := by rw [← HD.out.2.2.1]; exact ⟨ds, hat.nums, ⟨HD.out.2.1, hv.1⟩, rfl⟩
    have hm : val 4294967296 ds < maxN := Can.len_max ⟨HD.out.2.1, hv.1⟩ |>.1 (by rw [HD.out.2.2.1]; exact HD.out.2.2.2)
    obtain ⟨n, hnn⟩ : ∃ n, val 4294967296 ds = n := ⟨_, rfl⟩
    rw [hnn] at hn hm
    obtain ⟨z, hz1, hz2⟩ : ∃ z : Int, negB z = b ∧ z.natAbs = n := by
      cases b with
      | false => exact ⟨(n : Int), negB_neg (by omega), by omega⟩
      | true =>
        refine ⟨-(n : Int), negB_pos ?_, by omega⟩
        have : n ≠ 0 := fun e0 => hv.2 rfl ((show Can 4294967296 ds from ⟨HD.out.2.1, hv.1⟩).eq_nil (by decide) (by rw [hnn]; exact e0))
        omega
    have HV := Lib.hid (And.intro hv (And.intro hnn (And.intro hm (And.intro hz1 hz2))))
    subst hz2
    obtain ⟨s, hs⟩ : ∃ s, z.sign = s := ⟨_, rfl⟩
    have HS := Lib.hid hs
    clear hc hv hm hnn hz1 hs h0; clear hat; go_wp2_with fail; clear c0_
    refine S.cl (wsign_any ⟨_, _, _, by rw [HV.out.2.2.2.1], hn⟩ HV.out.2.2.1 HS.out) ?_; clear S; rintro e w2 rfl S H
    replace hn := hn.hold H; clear H; have c0_ := S.c3 0 rfl
    by_cases hx : -65536 ≤ e ∧ e ≤ 65536
    · have HX := Lib.hid hx
      clear hx; go_wp2_with fail; clear c0_
      refine S.cl (exp_in e _ HX.out.1 HX.out.2) ?_; clear S; rintro e w3 rfl S H
      replace hn := hn.hold H; clear H; have c0_ := S.c3 0 rfl
      by_cases hz0 : z = 0
      · have hs0 : (s == 0) = true := by rw [← HS.out, hz0]; rfl
        by_cases he : e = 0
        · have he0 : (e != 0) = false := by rw [he]; rfl
          have HE := Lib.hid (And.intro hz0 he)
          clear hz0 he; go_wp2_with fail
          exact bodyPost_ret (v := .int .i64 0) (by simp [results, Tryz.f129, go_sem]) rfl (⟨⟨0, rfl, fun _ => ⟨HV.out.1.1, HV.out.1.2, HX.out, .inl ⟨by rw [HV.out.2.1, HE.out.1]; rfl, HE.out.2⟩⟩⟩, S.below⟩)
        · have he0 : (e != 0) = true := by simpa using he
          clear hz0 he; go_wp2_with fail
          exact bodyPost_ret (v := .int .i64 2) (by simp [results, Tryz.f129, go_sem]) rfl (⟨⟨2, rfl, fun h => by cases h⟩, S.below⟩)
      · have hs0 : (s == 0) = false := by rw [← HS.out]; simpa using fun h => hz0 (Int.sign_eq_zero_iff_zero.1 h)
        have HZ := Lib.hid hz0
        clear hz0; go_wp2_with fail; clear c0_
        refine S.cl (tail_nat' hn HV.out.2.2.1 (HD.out.1.below S.below)) ?_; clear S; rintro e w4 ⟨t, rfl, ht⟩ S H
        replace hn := hn.hold H; clear H; have c0_ := S.c3 0 rfl
        by_cases ht0 : t = 0
        · subst ht0
          have HT := Lib.hid (show val 4294967296 ds % 2 = 1 by
            rw [HV.out.2.1]
            rcases ht.out with ⟨h, _⟩ | ⟨a, h⟩
            · have := HZ.out; omega
            · rw [Nat.pow_zero, Nat.one_mul] at h; omega)
          clear ht; go_wp2_with fail
          exact bodyPost_ret (v := .int .i64 0) (by simp [results, Tryz.f129, go_sem]) rfl (⟨⟨0, rfl, fun _ => ⟨HV.out.1.1, HV.out.1.2, HX.out, .inr HT.out⟩⟩, S.below⟩)
        · have htp : 0 < t := by omega
          have htI : (0 : Int) < (t : Int) := by omega
          clear ht ht0; go_wp2_with fail
          exact bodyPost_ret (v := .int .i64 2) (by simp [results, Tryz.f129, go_sem]) rfl (⟨⟨2, rfl, fun h => by cases h⟩, S.below⟩)
    · have HX := Lib.hid (show e < -65536 ∨ 65536 < e by omega)
      clear hx; go_wp2_with fail; clear c0_
      refine S.cl (exp_out e _ HX.out) ?_; clear S; rintro e w3 rfl S H
      replace hn := hn.hold H; clear H; have c0_ := S.c3 0 rfl; go_wp2_with fail
      exact bodyPost_ret (v := .int .i64 1) (by simp [results, Tryz.f129, go_sem]) rfl (⟨⟨1, rfl, fun h => by cases h⟩, S.below⟩)
  · have h0' : (c != 0) = true := by simpa using h0
    have HC := Lib.hid h0
    clear h0 hc; go_wp2_with fail
    exact bodyPost_ret (v := .int .i64 c) (by simp [results, Tryz.f129, go_sem]) rfl (⟨⟨c, rfl, fun h => absurd h HC.out⟩, S.below⟩)
set_option maxRecDepth 100000 in
set_option maxHeartbeats 2000000 in
theorem sends_any (b1 b2 : Bool) (p1 p2 : Option Addr) (l1 K1 l2 K2 : Nat) (e1 e2 : Int) (w : World) :
    Calls Tryz.prog 67 #[.agg #[.bool b1, .slice p1 l1 K1, .int .i64 e1, .bool b2, .slice p2 l2 K2, .int .i64 e2]] w fun e w' => e = .returned (.agg #[.bool b1, .slice p1 l1 K1, .int .i64 e1, .bool b2, .slice p2 l2 K2, .int .i64 e2]) ∧ Below w.heap.size w w' := by
  have S := ((St.start w).alloc 29 [.bool b1, .slice p1 l1 K1, .int .i64 e1, .bool b2, .slice p2 l2 K2, .int .i64 e2] (w.heap.size)).alloc 118 [.bool false, .slice none 0 0, .int .i64 0, .bool false, .slice none 0 0, .int .i64 0] (w.heap.size + 1)
  try simp only [List.cons_append, List.nil_append] at S
  have c0_ := S.c6 0 rfl; have c1_ := S.c6 1 rfl
  go_enter Tryz.func67, Tryz.ntmps67
  go_upto_region 1 with fail
  clear c0_ c1_
  generalize ((w.alloc (.cells #[.bool b1, .slice p1 l1 K1, .int .i64 e1, .bool b2, .slice p2 l2 K2, .int .i64 e2] 29)).alloc (.cells #[.bool false, .slice none 0 0, .int .i64 0, .bool false, .slice none 0 0, .int .i64 0] 118)) = w1 at S  ⊢
  have c0_ := S.c6 0 rfl; have c1_ := S.c6 1 rfl
  obtain ⟨f1_0, f1_1, f1_2, f1_3, f1_4, f1_5⟩ := S.f6 1 rfl
  have HP := S.put6 1 (.bool b1) (.slice p1 l1 K1) (.int .i64 e1) (.bool b2) (.slice p2 l2 K2) (.int .i64 e2) rfl rfl; have H := HP.2; replace S := HP.1; clear HP
  clear H; go_wp2_with fail; obtain ⟨d1_0, d1_1, d1_2, d1_3, d1_4, d1_5⟩ := S.c6 1 rfl
  exact bodyPost_ret (v := .agg #[.bool b1, .slice p1 l1 K1, .int .i64 e1, .bool b2, .slice p2 l2 K2, .int .i64 e2]) (by simp [results, Tryz.f67, go_sem, d1_0, d1_1, d1_2, d1_3, d1_4, d1_5]) rfl (⟨rfl, S.below⟩)
set_option maxRecDepth 100000 in
set_option maxHeartbeats 4000000 in
theorem scheck_any {va : Value} {x y : Rat} {w : World} {L H : Nat} (hT : Tab w) (ha : IsSp w va x y L H) (hk : H + L ≤ 16384) (hxy : ¬ y < x) :
    Calls Tryz.prog 64 #[va] w fun e w' => e = .returned (.int .i64 0) ∧ Below w.heap.size w w' := by
  obtain ⟨b1, p1, l1, K1, m1, e1, b2, p2, l2, K2, m2, e2, rfl, h1, n1, d1, h2, n2, d2⟩ := ha
  have HK := Lib.hid (And.intro hk hT)
  have hr := Lib.hid (decide_eq_false hxy)
  clear hk hT hxy
  have i0 : ∀ W : World, (Instr.index 118 (.agg #[.bool b1, .slice p1 l1 K1, .int .i64 e1, .bool b2, .slice p2 l2 K2, .int .i64 e2]) (.int .i64 0)).run Tryz.prog W = .ok (.agg #[.bool b1, .slice p1 l1 K1, .int .i64 e1]) W := fun _ => by kernel_rfl
  have i1 : ∀ W : World, (Instr.index 118 (.agg #[.bool b1, .slice p1 l1 K1, .int .i64 e1, .bool b2, .slice p2 l2 K2, .int .i64 e2]) (.int .i64 1)).run Tryz.prog W = .ok (.agg #[.bool b2, .slice p2 l2 K2, .int .i64 e2]) W := fun _ => by kernel_rfl
  have S := (St.start w).alloc 29 [.bool b1, .slice p1 l1 K1, .int .i64 e1, .bool b2, .slice p2 l2 K2, .int .i64 e2] (w.heap.size)
  try simp only [List.nil_append] at S
  replace n1 := n1.hold S.hold; replace n2 := n2.hold S.hold
  have c0_ := S.c6 0 rfl
  go_enter Tryz.func64, Tryz.ntmps64
  go_wp2_with fail; clear c0_
  refine S.cl (sends_any b1 b2 p1 p2 l1 K1 l2 K2 e1 e2 _) ?_; clear S; rintro e w1 rfl S H
  replace n1 := n1.hold H; replace n2 := n2.hold H
  clear H; have c0_ := S.c6 0 rfl; go_wp2_with fail; clear c0_
  go_loopw [8] (fun si wr => ∃ k : Nat, k ≤ 2 ∧ si = .int .i64 k ∧ IsNat wr (.slice p1 l1 K1) m1.natAbs ∧ IsNat wr (.slice p2 l2 K2) m2.natAbs ∧ St w wr [(w.heap.size, 29, [.bool b1, .slice p1 l1 K1, .int .i64 e1, .bool b2, .slice p2 l2 K2, .int .i64 e2])]) (fun si _ => 2 - (intOf si).toNat)
  case atStart => exact ⟨0, by omega, rfl, n1, n2, S⟩
  case round =>
    clear n1 n2 S
    obtain ⟨k, hk, rfl, n1, n2, S⟩ := hrel
    have hk3 : k = 0 ∨ k = 1 ∨ k = 2 := by omega
    clear hk
    rcases hk3 with rfl | rfl | rfl
    ·
      have H := S.hnew 27 [.bool b1, .slice p1 l1 K1, .int .i64 e1]
      replace S := S.al 27 [.bool b1, .slice p1 l1 K1, .int .i64 e1] (wr.heap.size)
      replace n1 := n1.hold H; replace n2 := n2.hold H
      clear H; have c0_ := S.c6 0 rfl; have c1_ := S.c3 1 rfl; go_wp2_with fail; clear c0_ c1_
      refine S.cl (dcheck_any (HK.out.2.below S.below) ⟨b1, p1, l1, K1, m1, e1, rfl, h1, n1, d1⟩ HK.out.1) ?_; clear S; rintro e w21 rfl S H
      replace n1 := n1.hold H; replace n2 := n2.hold H
      clear H; have c0_ := S.c6 0 rfl; have c1_ := S.c3 1 rfl; go_wp2_with fail
      replace S := S.take 1 (L := [(w.heap.size, 29, [.bool b1, .slice p1 l1 K1, .int .i64 e1, .bool b2, .slice p2 l2 K2, .int .i64 e2])]) rfl
      go_roundw
      case rel => exact ⟨1, by omega, rfl, n1, n2, S⟩
      case measure => simp [intOf]
    ·
      have H := S.hnew 27 [.bool b2, .slice p2 l2 K2, .int .i64 e2]
      replace S := S.al 27 [.bool b2, .slice p2 l2 K2, .int .i64 e2] (wr.heap.size)
      replace n1 := n1.hold H; replace n2 := n2.hold H
      clear H; have c0_ := S.c6 0 rfl; have c1_ := S.c3 1 rfl; go_wp2_with fail; clear c0_ c1_
      refine S.cl (dcheck_any (HK.out.2.below S.below) ⟨b2, p2, l2, K2, m2, e2, rfl, h2, n2, d2⟩ HK.out.1) ?_; clear S; rintro e w21 rfl S H
      replace n1 := n1.hold H; replace n2 := n2.hold H
      clear H; have c0_ := S.c6 0 rfl; have c1_ := S.c3 1 rfl; go_wp2_with fail
      replace S := S.take 1 (L := [(w.heap.size, 29, [.bool b1, .slice p1 l1 K1, .int .i64 e1, .bool b2, .slice p2 l2 K2, .int .i64 e2])]) rfl
      go_roundw
      case rel => exact ⟨2, by omega, rfl, n1, n2, S⟩
      case measure => simp [intOf]
    ·
      have c0_ := S.c6 0 rfl; go_wp2_with fail; clear c0_
      refine S.cl (dless_any ⟨b2, p2, l2, K2, m2, e2, rfl, h2, n2, d2⟩ ⟨b1, p1, l1, K1, m1, e1, rfl, h1, n1, d1⟩ HK.out.1 false hr.out) ?_; clear S; rintro e w21 rfl S H
      replace n1 := n1.hold H; replace n2 := n2.hold H
      clear H; have c0_ := S.c6 0 rfl; go_wp2_with fail
      exact bodyPost_ret (v := .int .i64 0) (by simp [results, Tryz.f64, go_sem]) rfl (⟨rfl, S.below⟩)
set_option maxRecDepth 100000 in
set_option maxHeartbeats 8000000 in
theorem smul_any {va vb : Value} {x y u v : Rat} {w : World} {L H : Nat} (hT : Tab w) (ha : IsSp w va x y L H) (hb : IsSp w vb u v L H) (hk : H + H + 1 + (L + L) ≤ 16384) (n : Nat) (hn2 : 2 ≤ n) (hn4 : n ≤ 4096) (lo hi : Rat) (hlo : min2 (min2 (min2 (x * u) (x * v)) (y * u)) (y * v) = lo) (hhi : max2 (max2 (max2 (x * u) (x * v)) (y * u)) (y * v) = hi) :
    Calls Tryz.prog 18 #[va, vb, .int .i64 n] w fun e w' => (∃ z, e = .returned (.tuple #[z, .int .i64 0]) ∧ IsSp w' z (rq lo n false) (rq hi n true) (L + L) (H + H + 1)) ∧ Below w.heap.size w w' := by
  obtain ⟨b1, p1, l1, K1, m1, e1, b2, p2, l2, K2, m2, e2, rfl, h1, n1, d1, h2, n2, d2⟩ := ha
  obtain ⟨b3, p3, l3, K3, m3, e3, b4, p4, l4, K4, m4, e4, rfl, h3, n3, d3, h4, n4, d4⟩ := hb
  have HK := Lib.hid (And.intro (show H + H + (L + L) ≤ 16384 by omega) (And.intro hn2 (And.intro hn4 (And.intro hT hk))))
  subst hlo hhi
  clear hk hn2 hn4 hT
  have i0 : ∀ W : World, (Instr.index 118 (.agg #[.bool b1, .slice p1 l1 K1, .int .i64 e1, .bool b2, .slice p2 l2 K2, .int .i64 e2]) (.int .i64 0)).run Tryz.prog W = .ok (.agg #[.bool b1, .slice p1 l1 K1, .int .i64 e1]) W := fun _ => by kernel_rfl
  have i1 : ∀ W : World, (Instr.index 118 (.agg #[.bool b1, .slice p1 l1 K1, .int .i64 e1, .bool b2, .slice p2 l2 K2, .int .i64 e2]) (.int .i64 1)).run Tryz.prog W = .ok (.agg #[.bool b2, .slice p2 l2 K2, .int .i64 e2]) W := fun _ => by kernel_rfl
  have j0 : ∀ W : World, (Instr.index 118 (.agg #[.bool b3, .slice p3 l3 K3, .int .i64 e3, .bool b4, .slice p4 l4 K4, .int .i64 e4]) (.int .i64 0)).run Tryz.prog W = .ok (.agg #[.bool b3, .slice p3 l3 K3, .int .i64 e3]) W := fun _ => by kernel_rfl
  have j1 : ∀ W : World, (Instr.index 118 (.agg #[.bool b3, .slice p3 l3 K3, .int .i64 e3, .bool b4, .slice p4 l4 K4, .int .i64 e4]) (.int .i64 1)).run Tryz.prog W = .ok (.agg #[.bool b4, .slice p4 l4 K4, .int .i64 e4]) W := fun _ => by kernel_rfl
  have S := (((St.start w).alloc 29 [.bool b1, .slice p1 l1 K1, .int .i64 e1, .bool b2, .slice p2 l2 K2, .int .i64 e2] (w.heap.size)).alloc 29 [.bool b3, .slice p3 l3 K3, .int .i64 e3, .bool b4, .slice p4 l4 K4, .int .i64 e4] (w.heap.size + 1)).alloc 29 [.bool false, .slice none 0 0, .int .i64 0, .bool false, .slice none 0 0, .int .i64 0] (w.heap.size + 1 + 1)
  try simp only [List.cons_append, List.nil_append] at S
  refine iv4 S.hold n1 n2 n3 n4 ?_; clear n1 n2 n3 n4; intro n1 n2 n3 n4
  have c0_ := S.c6 0 rfl; have c1_ := S.c6 1 rfl; have c2_ := S.c6 2 rfl
  go_enter Tryz.func18, Tryz.ntmps18
  have H := S.hnew 117 [.bool false, .slice none 0 0, .int .i64 0, .bool false, .slice none 0 0, .int .i64 0, .bool false, .slice none 0 0, .int .i64 0, .bool false, .slice none 0 0, .int .i64 0]
  replace S := S.al 117 [.bool false, .slice none 0 0, .int .i64 0, .bool false, .slice none 0 0, .int .i64 0, .bool false, .slice none 0 0, .int .i64 0, .bool false, .slice none 0 0, .int .i64 0] (w.heap.size + 1 + 1 + 1)
  refine iv4 H n1 n2 n3 n4 ?_; clear n1 n2 n3 n4; intro n1 n2 n3 n4
  clear H; clear c0_ c1_ c2_; have c0_ := S.c6 0 rfl; have c1_ := S.c6 1 rfl; have c2_ := S.c6 2 rfl; have c3_ := S.c12 3 rfl; go_wp2_with fail; clear c0_ c1_ c2_ c3_
  refine S.cl (sends_any b1 b2 p1 p2 l1 K1 l2 K2 e1 e2 _) ?_; clear S; rintro e w1 rfl S H
  refine iv4 H n1 n2 n3 n4 ?_; clear n1 n2 n3 n4; intro n1 n2 n3 n4
  clear H; have c0_ := S.c6 0 rfl; have c1_ := S.c6 1 rfl; have c2_ := S.c6 2 rfl; have c3_ := S.c12 3 rfl; go_wp2_with fail; clear c0_ c1_ c2_ c3_
  go_loopw [20] (fun si wr => (si = .int .i64 0 ∧ IsNat wr (.slice p1 l1 K1) m1.natAbs ∧ IsNat wr (.slice p2 l2 K2) m2.natAbs ∧ IsNat wr (.slice p3 l3 K3) m3.natAbs ∧ IsNat wr (.slice p4 l4 K4) m4.natAbs ∧ St w wr [(w.heap.size, 29, [.bool b1, .slice p1 l1 K1, .int .i64 e1, .bool b2, .slice p2 l2 K2, .int .i64 e2]), (w.heap.size + 1, 29, [.bool b3, .slice p3 l3 K3, .int .i64 e3, .bool b4, .slice p4 l4 K4, .int .i64 e4]), (w.heap.size + 1 + 1, 29, [.bool false, .slice none 0 0, .int .i64 0, .bool false, .slice none 0 0, .int .i64 0]), (w.heap.size + 1 + 1 + 1, 117, [.bool false, .slice none 0 0, .int .i64 0, .bool false, .slice none 0 0, .int .i64 0, .bool false, .slice none 0 0, .int .i64 0, .bool false, .slice none 0 0, .int .i64 0])]) ∨ (si = .int .i64 1 ∧ IsNat wr (.slice p1 l1 K1) m1.natAbs ∧ IsNat wr (.slice p2 l2 K2) m2.natAbs ∧ IsNat wr (.slice p3 l3 K3) m3.natAbs ∧ IsNat wr (.slice p4 l4 K4) m4.natAbs ∧ ∃ b5 p5 l5 K5 m5 e5 b6 p6 l6 K6 m6 e6, Hid (negB m5 = b5) ∧ IsNat wr (.slice p5 l5 K5) m5.natAbs ∧ Hid (DyF m5 e5 (x * u) (L + L) (H + H)) ∧ Hid (negB m6 = b6) ∧ IsNat wr (.slice p6 l6 K6) m6.natAbs ∧ Hid (DyF m6 e6 (x * v) (L + L) (H + H)) ∧ St w wr [(w.heap.size, 29, [.bool b1, .slice p1 l1 K1, .int .i64 e1, .bool b2, .slice p2 l2 K2, .int .i64 e2]), (w.heap.size + 1, 29, [.bool b3, .slice p3 l3 K3, .int .i64 e3, .bool b4, .slice p4 l4 K4, .int .i64 e4]), (w.heap.size + 1 + 1, 29, [.bool false, .slice none 0 0, .int .i64 0, .bool false, .slice none 0 0, .int .i64 0]), (w.heap.size + 1 + 1 + 1, 117, [.bool b5, .slice p5 l5 K5, .int .i64 e5, .bool b6, .slice p6 l6 K6, .int .i64 e6, .bool false, .slice none 0 0, .int .i64 0, .bool false, .slice none 0 0, .int .i64 0])]) ∨ (si = .int .i64 2 ∧ IsNat wr (.slice p1 l1 K1) m1.natAbs ∧ IsNat wr (.slice p2 l2 K2) m2.natAbs ∧ IsNat wr (.slice p3 l3 K3) m3.natAbs ∧ IsNat wr (.slice p4 l4 K4) m4.natAbs ∧ ∃ b5 p5 l5 K5 m5 e5 b6 p6 l6 K6 m6 e6 b7 p7 l7 K7 m7 e7 b8 p8 l8 K8 m8 e8, Hid (negB m5 = b5) ∧ IsNat wr (.slice p5 l5 K5) m5.natAbs ∧ Hid (DyF m5 e5 (x * u) (L + L) (H + H)) ∧ Hid (negB m6 = b6) ∧ IsNat wr (.slice p6 l6 K6) m6.natAbs ∧ Hid (DyF m6 e6 (x * v) (L + L) (H + H)) ∧ Hid (negB m7 = b7) ∧ IsNat wr (.slice p7 l7 K7) m7.natAbs ∧ Hid (DyF m7 e7 (y * u) (L + L) (H + H)) ∧ Hid (negB m8 = b8) ∧ IsNat wr (.slice p8 l8 K8) m8.natAbs ∧ Hid (DyF m8 e8 (y * v) (L + L) (H + H)) ∧ St w wr [(w.heap.size, 29, [.bool b1, .slice p1 l1 K1, .int .i64 e1, .bool b2, .slice p2 l2 K2, .int .i64 e2]), (w.heap.size + 1, 29, [.bool b3, .slice p3 l3 K3, .int .i64 e3, .bool b4, .slice p4 l4 K4, .int .i64 e4]), (w.heap.size + 1 + 1, 29, [.bool false, .slice none 0 0, .int .i64 0, .bool false, .slice none 0 0, .int .i64 0]), (w.heap.size + 1 + 1 + 1, 117, [.bool b5, .slice p5 l5 K5, .int .i64 e5, .bool b6, .slice p6 l6 K6, .int .i64 e6, .bool b7, .slice p7 l7 K7, .int .i64 e7, .bool b8, .slice p8 l8 K8, .int .i64 e8])])) (fun si _ => 2 - (intOf si).toNat)
  case atStart => exact .inl ⟨rfl, n1, n2, n3, n4, S⟩
  case round =>
    clear n1 n2 n3 n4 S
    rcases hrel with ⟨rfl, n1, n2, n3, n4, S⟩ | ⟨rfl, n1, n2, n3, n4, b5, p5, l5, K5, m5, e5, b6, p6, l6, K6, m6, e6, h5, n5, d5, h6, n6, d6, S⟩ | ⟨rfl, n1, n2, n3, n4, b5, p5, l5, K5, m5, e5, b6, p6, l6, K6, m6, e6, b7, p7, l7, K7, m7, e7, b8, p8, l8, K8, m8, e8, h5, n5, d5, h6, n6, d6, h7, n7, d7, h8, n8, d8, S⟩
    ·
      have H := S.hnew 27 [.bool b1, .slice p1 l1 K1, .int .i64 e1]
      replace S := S.al 27 [.bool b1, .slice p1 l1 K1, .int .i64 e1] (wr.heap.size)
      refine iv4 H n1 n2 n3 n4 ?_; clear n1 n2 n3 n4; intro n1 n2 n3 n4
      clear H; have c0_ := S.c6 0 rfl; have c1_ := S.c6 1 rfl; have c2_ := S.c6 2 rfl; have c3_ := S.c12 3 rfl; have c4_ := S.c3 4 rfl; go_wp2_with fail; clear c0_ c1_ c2_ c3_ c4_
      refine S.cl (sends_any b3 b4 p3 p4 l3 K3 l4 K4 e3 e4 _) ?_; clear S; rintro e w21 rfl S H
      refine iv4 H n1 n2 n3 n4 ?_; clear n1 n2 n3 n4; intro n1 n2 n3 n4
      clear H; have c0_ := S.c6 0 rfl; have c1_ := S.c6 1 rfl; have c2_ := S.c6 2 rfl; have c3_ := S.c12 3 rfl; have c4_ := S.c3 4 rfl; go_wp2_with fail; clear c0_ c1_ c2_ c3_ c4_
      obtain ⟨g10, hg10⟩ : ∃ g, wr.heap.size = g := ⟨_, rfl⟩
      rw [hg10] at S ⊢
      clear hg10
      go_loopw [26] (fun si wr => (si = .int .i64 0 ∧ IsNat wr (.slice p1 l1 K1) m1.natAbs ∧ IsNat wr (.slice p2 l2 K2) m2.natAbs ∧ IsNat wr (.slice p3 l3 K3) m3.natAbs ∧ IsNat wr (.slice p4 l4 K4) m4.natAbs ∧ St w wr [(w.heap.size, 29, [.bool b1, .slice p1 l1 K1, .int .i64 e1, .bool b2, .slice p2 l2 K2, .int .i64 e2]), (w.heap.size + 1, 29, [.bool b3, .slice p3 l3 K3, .int .i64 e3, .bool b4, .slice p4 l4 K4, .int .i64 e4]), (w.heap.size + 1 + 1, 29, [.bool false, .slice none 0 0, .int .i64 0, .bool false, .slice none 0 0, .int .i64 0]), (w.heap.size + 1 + 1 + 1, 117, [.bool false, .slice none 0 0, .int .i64 0, .bool false, .slice none 0 0, .int .i64 0, .bool false, .slice none 0 0, .int .i64 0, .bool false, .slice none 0 0, .int .i64 0]), (g10, 27, [.bool b1, .slice p1 l1 K1, .int .i64 e1])]) ∨ (si = .int .i64 1 ∧ IsNat wr (.slice p1 l1 K1) m1.natAbs ∧ IsNat wr (.slice p2 l2 K2) m2.natAbs ∧ IsNat wr (.slice p3 l3 K3) m3.natAbs ∧ IsNat wr (.slice p4 l4 K4) m4.natAbs ∧ ∃ b5 p5 l5 K5 m5 e5, Hid (negB m5 = b5) ∧ IsNat wr (.slice p5 l5 K5) m5.natAbs ∧ Hid (DyF m5 e5 (x * u) (L + L) (H + H)) ∧ St w wr [(w.heap.size, 29, [.bool b1, .slice p1 l1 K1, .int .i64 e1, .bool b2, .slice p2 l2 K2, .int .i64 e2]), (w.heap.size + 1, 29, [.bool b3, .slice p3 l3 K3, .int .i64 e3, .bool b4, .slice p4 l4 K4, .int .i64 e4]), (w.heap.size + 1 + 1, 29, [.bool false, .slice none 0 0, .int .i64 0, .bool false, .slice none 0 0, .int .i64 0]), (w.heap.size + 1 + 1 + 1, 117, [.bool b5, .slice p5 l5 K5, .int .i64 e5, .bool false, .slice none 0 0, .int .i64 0, .bool false, .slice none 0 0, .int .i64 0, .bool false, .slice none 0 0, .int .i64 0]), (g10, 27, [.bool b1, .slice p1 l1 K1, .int .i64 e1])]) ∨ (si = .int .i64 2 ∧ IsNat wr (.slice p1 l1 K1) m1.natAbs ∧ IsNat wr (.slice p2 l2 K2) m2.natAbs ∧ IsNat wr (.slice p3 l3 K3) m3.natAbs ∧ IsNat wr (.slice p4 l4 K4) m4.natAbs ∧ ∃ b5 p5 l5 K5 m5 e5 b6 p6 l6 K6 m6 e6, Hid (negB m5 = b5) ∧ IsNat wr (.slice p5 l5 K5) m5.natAbs ∧ Hid (DyF m5 e5 (x * u) (L + L) (H + H)) ∧ Hid (negB m6 = b6) ∧ IsNat wr (.slice p6 l6 K6) m6.natAbs ∧ Hid (DyF m6 e6 (x * v) (L + L) (H + H)) ∧ St w wr [(w.heap.size, 29, [.bool b1, .slice p1 l1 K1, .int .i64 e1, .bool b2, .slice p2 l2 K2, .int .i64 e2]), (w.heap.size + 1, 29, [.bool b3, .slice p3 l3 K3, .int .i64 e3, .bool b4, .slice p4 l4 K4, .int .i64 e4]), (w.heap.size + 1 + 1, 29, [.bool false, .slice none 0 0, .int .i64 0, .bool false, .slice none 0 0, .int .i64 0]), (w.heap.size + 1 + 1 + 1, 117, [.bool b5, .slice p5 l5 K5, .int .i64 e5, .bool b6, .slice p6 l6 K6, .int .i64 e6, .bool false, .slice none 0 0, .int .i64 0, .bool false, .slice none 0 0, .int .i64 0]), (g10, 27, [.bool b1, .slice p1 l1 K1, .int .i64 e1])])) (fun si _ => 2 - (intOf si).toNat)
      case atStart => exact .inl ⟨rfl, n1, n2, n3, n4, S⟩
      case round =>
        clear n1 n2 n3 n4 S
        rcases hrel with ⟨rfl, n1, n2, n3, n4, S⟩ | ⟨rfl, n1, n2, n3, n4, b5, p5, l5, K5, m5, e5, h5, n5, d5, S⟩ | ⟨rfl, n1, n2, n3, n4, b5, p5, l5, K5, m5, e5, b6, p6, l6, K6, m6, e6, h5, n5, d5, h6, n6, d6, S⟩
        ·
          have H := S.hnew 27 [.bool b3, .slice p3 l3 K3, .int .i64 e3]
          replace S := S.al 27 [.bool b3, .slice p3 l3 K3, .int .i64 e3] (wr.heap.size)
          refine iv4 H n1 n2 n3 n4 ?_; clear n1 n2 n3 n4; intro n1 n2 n3 n4
          clear H; have c3_ := S.c12 3 rfl; have c4_ := S.c3 4 rfl; have c5_ := S.c3 5 rfl; go_wp2_with fail; clear c3_ c4_ c5_
          refine S.cl (dmul_any (HK.out.2.2.2.1.below S.below) ⟨b1, p1, l1, K1, m1, e1, rfl, h1, n1, d1⟩ ⟨b3, p3, l3, K3, m3, e3, rfl, h3, n3, d3⟩ HK.out.1 (x * u) rfl) ?_; clear S; rintro e w41 ⟨_, rfl, b5, p5, l5, K5, m5, e5, rfl, h5, n5, d5⟩ S H
          refine iv4 H n1 n2 n3 n4 ?_; clear n1 n2 n3 n4; intro n1 n2 n3 n4
          clear H; have c3_ := S.c12 3 rfl; have c4_ := S.c3 4 rfl; have c5_ := S.c3 5 rfl; clear c3_ c4_ c5_; have c3_ := S.c12 3 rfl; have f3_0 := S.f 3 0 rfl
          have H := S.hset 3 0 (.bool b5) rfl rfl (by intro q n e; cases e)
          replace S := S.set 3 0 (.bool b5) rfl
          refine iv5 H n1 n2 n3 n4 n5 ?_; clear n1 n2 n3 n4 n5; intro n1 n2 n3 n4 n5
          clear H; have f3_1 := S.f 3 1 rfl
          have H := S.hset 3 1 (.slice p5 l5 K5) rfl rfl (by intro q n e; cases e)
          replace S := S.set 3 1 (.slice p5 l5 K5) rfl
          refine iv5 H n1 n2 n3 n4 n5 ?_; clear n1 n2 n3 n4 n5; intro n1 n2 n3 n4 n5
          clear H; have f3_2 := S.f 3 2 rfl
          have H := S.hset32 3 2 (.int .i64 e5) rfl rfl (by intro n e; cases e)
          replace S := S.set 3 2 (.int .i64 e5) rfl
          refine iw5 H n1 n2 n3 n4 n5 ?_; clear n1 n2 n3 n4 n5 H; intro n1 n2 n3 n4 n5; go_wp2_with fail
          replace S := S.take 5 (L := [(w.heap.size, 29, [.bool b1, .slice p1 l1 K1, .int .i64 e1, .bool b2, .slice p2 l2 K2, .int .i64 e2]), (w.heap.size + 1, 29, [.bool b3, .slice p3 l3 K3, .int .i64 e3, .bool b4, .slice p4 l4 K4, .int .i64 e4]), (w.heap.size + 1 + 1, 29, [.bool false, .slice none 0 0, .int .i64 0, .bool false, .slice none 0 0, .int .i64 0]), (w.heap.size + 1 + 1 + 1, 117, [.bool b5, .slice p5 l5 K5, .int .i64 e5, .bool false, .slice none 0 0, .int .i64 0, .bool false, .slice none 0 0, .int .i64 0, .bool false, .slice none 0 0, .int .i64 0]), (g10, 27, [.bool b1, .slice p1 l1 K1, .int .i64 e1])]) rfl
          go_roundw
          case rel => exact .inr (.inl ⟨rfl, n1, n2, n3, n4, b5, p5, l5, K5, m5, e5, h5, n5, d5, S⟩)
          case measure => simp [intOf]
        ·
          have H := S.hnew 27 [.bool b4, .slice p4 l4 K4, .int .i64 e4]
          replace S := S.al 27 [.bool b4, .slice p4 l4 K4, .int .i64 e4] (wr.heap.size)
          refine iv5 H n1 n2 n3 n4 n5 ?_; clear n1 n2 n3 n4 n5; intro n1 n2 n3 n4 n5
          clear H; have c3_ := S.c12 3 rfl; have c4_ := S.c3 4 rfl; have c5_ := S.c3 5 rfl; go_wp2_with fail; clear c3_ c4_ c5_
          refine S.cl (dmul_any (HK.out.2.2.2.1.below S.below) ⟨b1, p1, l1, K1, m1, e1, rfl, h1, n1, d1⟩ ⟨b4, p4, l4, K4, m4, e4, rfl, h4, n4, d4⟩ HK.out.1 (x * v) rfl) ?_; clear S; rintro e w41 ⟨_, rfl, b6, p6, l6, K6, m6, e6, rfl, h6, n6, d6⟩ S H
          refine iv5 H n1 n2 n3 n4 n5 ?_; clear n1 n2 n3 n4 n5; intro n1 n2 n3 n4 n5
          clear H; have c3_ := S.c12 3 rfl; have c4_ := S.c3 4 rfl; have c5_ := S.c3 5 rfl; clear c3_ c4_ c5_; have c3_ := S.c12 3 rfl; have f3_3 := S.f 3 3 rfl
          have H := S.hset 3 3 (.bool b6) rfl rfl (by intro q n e; cases e)
          replace S := S.set 3 3 (.bool b6) rfl
          refine iv6 H n1 n2 n3 n4 n5 n6 ?_; clear n1 n2 n3 n4 n5 n6; intro n1 n2 n3 n4 n5 n6
          clear H; have f3_4 := S.f 3 4 rfl
          have H := S.hset 3 4 (.slice p6 l6 K6) rfl rfl (by intro q n e; cases e)
          replace S := S.set 3 4 (.slice p6 l6 K6) rfl
          refine iv6 H n1 n2 n3 n4 n5 n6 ?_; clear n1 n2 n3 n4 n5 n6; intro n1 n2 n3 n4 n5 n6
          clear H; have f3_5 := S.f 3 5 rfl
          have H := S.hset32 3 5 (.int .i64 e6) rfl rfl (by intro n e; cases e)
          replace S := S.set 3 5 (.int .i64 e6) rfl
          refine iw6 H n1 n2 n3 n4 n5 n6 ?_; clear n1 n2 n3 n4 n5 n6 H; intro n1 n2 n3 n4 n5 n6; go_wp2_with fail
          replace S := S.take 5 (L := [(w.heap.size, 29, [.bool b1, .slice p1 l1 K1, .int .i64 e1, .bool b2, .slice p2 l2 K2, .int .i64 e2]), (w.heap.size + 1, 29, [.bool b3, .slice p3 l3 K3, .int .i64 e3, .bool b4, .slice p4 l4 K4, .int .i64 e4]), (w.heap.size + 1 + 1, 29, [.bool false, .slice none 0 0, .int .i64 0, .bool false, .slice none 0 0, .int .i64 0]), (w.heap.size + 1 + 1 + 1, 117, [.bool b5, .slice p5 l5 K5, .int .i64 e5, .bool b6, .slice p6 l6 K6, .int .i64 e6, .bool false, .slice none 0 0, .int .i64 0, .bool false, .slice none 0 0, .int .i64 0]), (g10, 27, [.bool b1, .slice p1 l1 K1, .int .i64 e1])]) rfl
          go_roundw
          case rel => exact .inr (.inr ⟨rfl, n1, n2, n3, n4, b5, p5, l5, K5, m5, e5, b6, p6, l6, K6, m6, e6, h5, n5, d5, h6, n6, d6, S⟩)
          case measure => simp [intOf]
        ·
          go_wp2_with fail
          replace S := S.take 4 (L := [(w.heap.size, 29, [.bool b1, .slice p1 l1 K1, .int .i64 e1, .bool b2, .slice p2 l2 K2, .int .i64 e2]), (w.heap.size + 1, 29, [.bool b3, .slice p3 l3 K3, .int .i64 e3, .bool b4, .slice p4 l4 K4, .int .i64 e4]), (w.heap.size + 1 + 1, 29, [.bool false, .slice none 0 0, .int .i64 0, .bool false, .slice none 0 0, .int .i64 0]), (w.heap.size + 1 + 1 + 1, 117, [.bool b5, .slice p5 l5 K5, .int .i64 e5, .bool b6, .slice p6 l6 K6, .int .i64 e6, .bool false, .slice none 0 0, .int .i64 0, .bool false, .slice none 0 0, .int .i64 0])]) rfl
          go_roundw
          case rel => exact .inr (.inl ⟨rfl, n1, n2, n3, n4, b5, p5, l5, K5, m5, e5, b6, p6, l6, K6, m6, e6, h5, n5, d5, h6, n6, d6, S⟩)
          case measure => simp [intOf]
    ·
      have H := S.hnew 27 [.bool b2, .slice p2 l2 K2, .int .i64 e2]
      replace S := S.al 27 [.bool b2, .slice p2 l2 K2, .int .i64 e2] (wr.heap.size)
      refine iv6 H n1 n2 n3 n4 n5 n6 ?_; clear n1 n2 n3 n4 n5 n6; intro n1 n2 n3 n4 n5 n6
      clear H; have c0_ := S.c6 0 rfl; have c1_ := S.c6 1 rfl; have c2_ := S.c6 2 rfl; have c3_ := S.c12 3 rfl; have c4_ := S.c3 4 rfl; go_wp2_with fail; clear c0_ c1_ c2_ c3_ c4_
      refine S.cl (sends_any b3 b4 p3 p4 l3 K3 l4 K4 e3 e4 _) ?_; clear S; rintro e w21 rfl S H
      refine iv6 H n1 n2 n3 n4 n5 n6 ?_; clear n1 n2 n3 n4 n5 n6; intro n1 n2 n3 n4 n5 n6
      clear H; have c0_ := S.c6 0 rfl; have c1_ := S.c6 1 rfl; have c2_ := S.c6 2 rfl; have c3_ := S.c12 3 rfl; have c4_ := S.c3 4 rfl; go_wp2_with fail; clear c0_ c1_ c2_ c3_ c4_
      obtain ⟨g10, hg10⟩ : ∃ g, wr.heap.size = g := ⟨_, rfl⟩
      rw [hg10] at S ⊢
      clear hg10
      go_loopw [26] (fun si wr => (si = .int .i64 0 ∧ IsNat wr (.slice p1 l1 K1) m1.natAbs ∧ IsNat wr (.slice p2 l2 K2) m2.natAbs ∧ IsNat wr (.slice p3 l3 K3) m3.natAbs ∧ IsNat wr (.slice p4 l4 K4) m4.natAbs ∧ ∃ b5 p5 l5 K5 m5 e5 b6 p6 l6 K6 m6 e6, Hid (negB m5 = b5) ∧ IsNat wr (.slice p5 l5 K5) m5.natAbs ∧ Hid (DyF m5 e5 (x * u) (L + L) (H + H)) ∧ Hid (negB m6 = b6) ∧ IsNat wr (.slice p6 l6 K6) m6.natAbs ∧ Hid (DyF m6 e6 (x * v) (L + L) (H + H)) ∧ St w wr [(w.heap.size, 29, [.bool b1, .slice p1 l1 K1, .int .i64 e1, .bool b2, .slice p2 l2 K2, .int .i64 e2]), (w.heap.size + 1, 29, [.bool b3, .slice p3 l3 K3, .int .i64 e3, .bool b4, .slice p4 l4 K4, .int .i64 e4]), (w.heap.size + 1 + 1, 29, [.bool false, .slice none 0 0, .int .i64 0, .bool false, .slice none 0 0, .int .i64 0]), (w.heap.size + 1 + 1 + 1, 117, [.bool b5, .slice p5 l5 K5, .int .i64 e5, .bool b6, .slice p6 l6 K6, .int .i64 e6, .bool false, .slice none 0 0, .int .i64 0, .bool false, .slice none 0 0, .int .i64 0]), (g10, 27, [.bool b2, .slice p2 l2 K2, .int .i64 e2])]) ∨ (si = .int .i64 1 ∧ IsNat wr (.slice p1 l1 K1) m1.natAbs ∧ IsNat wr (.slice p2 l2 K2) m2.natAbs ∧ IsNat wr (.slice p3 l3 K3) m3.natAbs ∧ IsNat wr (.slice p4 l4 K4) m4.natAbs ∧ ∃ b5 p5 l5 K5 m5 e5 b6 p6 l6 K6 m6 e6 b7 p7 l7 K7 m7 e7, Hid (negB m5 = b5) ∧ IsNat wr (.slice p5 l5 K5) m5.natAbs ∧ Hid (DyF m5 e5 (x * u) (L + L) (H + H)) ∧ Hid (negB m6 = b6) ∧ IsNat wr (.slice p6 l6 K6) m6.natAbs ∧ Hid (DyF m6 e6 (x * v) (L + L) (H + H)) ∧ Hid (negB m7 = b7) ∧ IsNat wr (.slice p7 l7 K7) m7.natAbs ∧ Hid (DyF m7 e7 (y * u) (L + L) (H + H)) ∧ St w wr [(w.heap.size, 29, [.bool b1, .slice p1 l1 K1, .int .i64 e1, .bool b2, .slice p2 l2 K2, .int .i64 e2]), (w.heap.size + 1, 29, [.bool b3, .slice p3 l3 K3, .int .i64 e3, .bool b4, .slice p4 l4 K4, .int .i64 e4]), (w.heap.size + 1 + 1, 29, [.bool false, .slice none 0 0, .int .i64 0, .bool false, .slice none 0 0, .int .i64 0]), (w.heap.size + 1 + 1 + 1, 117, [.bool b5, .slice p5 l5 K5, .int .i64 e5, .bool b6, .slice p6 l6 K6, .int .i64 e6, .bool b7, .slice p7 l7 K7, .int .i64 e7, .bool false, .slice none 0 0, .int .i64 0]), (g10, 27, [.bool b2, .slice p2 l2 K2, .int .i64 e2])]) ∨ (si = .int .i64 2 ∧ IsNat wr (.slice p1 l1 K1) m1.natAbs ∧ IsNat wr (.slice p2 l2 K2) m2.natAbs ∧ IsNat wr (.slice p3 l3 K3) m3.natAbs ∧ IsNat wr (.slice p4 l4 K4) m4.natAbs ∧ ∃ b5 p5 l5 K5 m5 e5 b6 p6 l6 K6 m6 e6 b7 p7 l7 K7 m7 e7 b8 p8 l8 K8 m8 e8, Hid (negB m5 = b5) ∧ IsNat wr (.slice p5 l5 K5) m5.natAbs ∧ Hid (DyF m5 e5 (x * u) (L + L) (H + H)) ∧ Hid (negB m6 = b6) ∧ IsNat wr (.slice p6 l6 K6) m6.natAbs ∧ Hid (DyF m6 e6 (x * v) (L + L) (H + H)) ∧ Hid (negB m7 = b7) ∧ IsNat wr (.slice p7 l7 K7) m7.natAbs ∧ Hid (DyF m7 e7 (y * u) (L + L) (H + H)) ∧ Hid (negB m8 = b8) ∧ IsNat wr (.slice p8 l8 K8) m8.natAbs ∧ Hid (DyF m8 e8 (y * v) (L + L) (H + H)) ∧ St w wr [(w.heap.size, 29, [.bool b1, .slice p1 l1 K1, .int .i64 e1, .bool b2, .slice p2 l2 K2, .int .i64 e2]), (w.heap.size + 1, 29, [.bool b3, .slice p3 l3 K3, .int .i64 e3, .bool b4, .slice p4 l4 K4, .int .i64 e4]), (w.heap.size + 1 + 1, 29, [.bool false, .slice none 0 0, .int .i64 0, .bool false, .slice none 0 0, .int .i64 0]), (w.heap.size + 1 + 1 + 1, 117, [.bool b5, .slice p5 l5 K5, .int .i64 e5, .bool b6, .slice p6 l6 K6, .int .i64 e6, .bool b7, .slice p7 l7 K7, .int .i64 e7, .bool b8, .slice p8 l8 K8, .int .i64 e8]), (g10, 27, [.bool b2, .slice p2 l2 K2, .int .i64 e2])])) (fun si _ => 2 - (intOf si).toNat)
      case atStart => exact .inl ⟨rfl, n1, n2, n3, n4, b5, p5, l5, K5, m5, e5, b6, p6, l6, K6, m6, e6, h5, n5, d5, h6, n6, d6, S⟩
      case round =>
        clear n1 n2 n3 n4 n5 n6 S
        rcases hrel with ⟨rfl, n1, n2, n3, n4, b5, p5, l5, K5, m5, e5, b6, p6, l6, K6, m6, e6, h5, n5, d5, h6, n6, d6, S⟩ | ⟨rfl, n1, n2, n3, n4, b5, p5, l5, K5, m5, e5, b6, p6, l6, K6, m6, e6, b7, p7, l7, K7, m7, e7, h5, n5, d5, h6, n6, d6, h7, n7, d7, S⟩ | ⟨rfl, n1, n2, n3, n4, b5, p5, l5, K5, m5, e5, b6, p6, l6, K6, m6, e6, b7, p7, l7, K7, m7, e7, b8, p8, l8, K8, m8, e8, h5, n5, d5, h6, n6, d6, h7, n7, d7, h8, n8, d8, S⟩
        ·
          have H := S.hnew 27 [.bool b3, .slice p3 l3 K3, .int .i64 e3]
          replace S := S.al 27 [.bool b3, .slice p3 l3 K3, .int .i64 e3] (wr.heap.size)
          refine iv6 H n1 n2 n3 n4 n5 n6 ?_; clear n1 n2 n3 n4 n5 n6; intro n1 n2 n3 n4 n5 n6
          clear H; have c3_ := S.c12 3 rfl; have c4_ := S.c3 4 rfl; have c5_ := S.c3 5 rfl; go_wp2_with fail; clear c3_ c4_ c5_
          refine S.cl (dmul_any (HK.out.2.2.2.1.below S.below) ⟨b2, p2, l2, K2, m2, e2, rfl, h2, n2, d2⟩ ⟨b3, p3, l3, K3, m3, e3, rfl, h3, n3, d3⟩ HK.out.1 (y * u) rfl) ?_; clear S; rintro e w41 ⟨_, rfl, b7, p7, l7, K7, m7, e7, rfl, h7, n7, d7⟩ S H
          refine iv6 H n1 n2 n3 n4 n5 n6 ?_; clear n1 n2 n3 n4 n5 n6; intro n1 n2 n3 n4 n5 n6
          clear H; have c3_ := S.c12 3 rfl; have c4_ := S.c3 4 rfl; have c5_ := S.c3 5 rfl; clear c3_ c4_ c5_; have c3_ := S.c12 3 rfl; have f3_6 := S.f 3 6 rfl
          have H := S.hset 3 6 (.bool b7) rfl rfl (by intro q n e; cases e)
          replace S := S.set 3 6 (.bool b7) rfl
          refine iv7 H n1 n2 n3 n4 n5 n6 n7 ?_; clear n1 n2 n3 n4 n5 n6 n7; intro n1 n2 n3 n4 n5 n6 n7
          clear H; have f3_7 := S.f 3 7 rfl
          have H := S.hset 3 7 (.slice p7 l7 K7) rfl rfl (by intro q n e; cases e)
          replace S := S.set 3 7 (.slice p7 l7 K7) rfl
          refine iv7 H n1 n2 n3 n4 n5 n6 n7 ?_; clear n1 n2 n3 n4 n5 n6 n7; intro n1 n2 n3 n4 n5 n6 n7
          clear H; have f3_8 := S.f 3 8 rfl
          have H := S.hset32 3 8 (.int .i64 e7) rfl rfl (by intro n e; cases e)
          replace S := S.set 3 8 (.int .i64 e7) rfl
          refine iw7 H n1 n2 n3 n4 n5 n6 n7 ?_; clear n1 n2 n3 n4 n5 n6 n7 H; intro n1 n2 n3 n4 n5 n6 n7; go_wp2_with fail
          replace S := S.take 5 (L := [(w.heap.size, 29, [.bool b1, .slice p1 l1 K1, .int .i64 e1, .bool b2, .slice p2 l2 K2, .int .i64 e2]), (w.heap.size + 1, 29, [.bool b3, .slice p3 l3 K3, .int .i64 e3, .bool b4, .slice p4 l4 K4, .int .i64 e4]), (w.heap.size + 1 + 1, 29, [.bool false, .slice none 0 0, .int .i64 0, .bool false, .slice none 0 0, .int .i64 0]), (w.heap.size + 1 + 1 + 1, 117, [.bool b5, .slice p5 l5 K5, .int .i64 e5, .bool b6, .slice p6 l6 K6, .int .i64 e6, .bool b7, .slice p7 l7 K7, .int .i64 e7, .bool false, .slice none 0 0, .int .i64 0]), (g10, 27, [.bool b2, .slice p2 l2 K2, .int .i64 e2])]) rfl
          go_roundw
          case rel => exact .inr (.inl ⟨rfl, n1, n2, n3, n4, b5, p5, l5, K5, m5, e5, b6, p6, l6, K6, m6, e6, b7, p7, l7, K7, m7, e7, h5, n5, d5, h6, n6, d6, h7, n7, d7, S⟩)
          case measure => simp [intOf]
        ·
          have H := S.hnew 27 [.bool b4, .slice p4 l4 K4, .int .i64 e4]
          replace S := S.al 27 [.bool b4, .slice p4 l4 K4, .int .i64 e4] (wr.heap.size)
          refine iv7 H n1 n2 n3 n4 n5 n6 n7 ?_; clear n1 n2 n3 n4 n5 n6 n7; intro n1 n2 n3 n4 n5 n6 n7
          clear H; have c3_ := S.c12 3 rfl; have c4_ := S.c3 4 rfl; have c5_ := S.c3 5 rfl; go_wp2_with fail; clear c3_ c4_ c5_
          refine S.cl (dmul_any (HK.out.2.2.2.1.below S.below) ⟨b2, p2, l2, K2, m2, e2, rfl, h2, n2, d2⟩ ⟨b4, p4, l4, K4, m4, e4, rfl, h4, n4, d4⟩ HK.out.1 (y * v) rfl) ?_; clear S; rintro e w41 ⟨_, rfl, b8, p8, l8, K8, m8, e8, rfl, h8, n8, d8⟩ S H
          refine iv7 H n1 n2 n3 n4 n5 n6 n7 ?_; clear n1 n2 n3 n4 n5 n6 n7; intro n1 n2 n3 n4 n5 n6 n7
          clear H; have c3_ := S.c12 3 rfl; have c4_ := S.c3 4 rfl; have c5_ := S.c3 5 rfl; clear c3_ c4_ c5_; have c3_ := S.c12 3 rfl; have f3_9 := S.f 3 9 rfl
          have H := S.hset 3 9 (.bool b8) rfl rfl (by intro q n e; cases e)
          replace S := S.set 3 9 (.bool b8) rfl
          refine iv8 H n1 n2 n3 n4 n5 n6 n7 n8 ?_; clear n1 n2 n3 n4 n5 n6 n7 n8; intro n1 n2 n3 n4 n5 n6 n7 n8
          clear H; have f3_10 := S.f 3 10 rfl
          have H := S.hset 3 10 (.slice p8 l8 K8) rfl rfl (by intro q n e; cases e)
          replace S := S.set 3 10 (.slice p8 l8 K8) rfl
          refine iv8 H n1 n2 n3 n4 n5 n6 n7 n8 ?_; clear n1 n2 n3 n4 n5 n6 n7 n8; intro n1 n2 n3 n4 n5 n6 n7 n8
          clear H; have f3_11 := S.f 3 11 rfl
          have H := S.hset32 3 11 (.int .i64 e8) rfl rfl (by intro n e; cases e)
          replace S := S.set 3 11 (.int .i64 e8) rfl
          refine iw8 H n1 n2 n3 n4 n5 n6 n7 n8 ?_; clear n1 n2 n3 n4 n5 n6 n7 n8 H; intro n1 n2 n3 n4 n5 n6 n7 n8; go_wp2_with fail
          replace S := S.take 5 (L := [(w.heap.size, 29, [.bool b1, .slice p1 l1 K1, .int .i64 e1, .bool b2, .slice p2 l2 K2, .int .i64 e2]), (w.heap.size + 1, 29, [.bool b3, .slice p3 l3 K3, .int .i64 e3, .bool b4, .slice p4 l4 K4, .int .i64 e4]), (w.heap.size + 1 + 1, 29, [.bool false, .slice none 0 0, .int .i64 0, .bool false, .slice none 0 0, .int .i64 0]), (w.heap.size + 1 + 1 + 1, 117, [.bool b5, .slice p5 l5 K5, .int .i64 e5, .bool b6, .slice p6 l6 K6, .int .i64 e6, .bool b7, .slice p7 l7 K7, .int .i64 e7, .bool b8, .slice p8 l8 K8, .int .i64 e8]), (g10, 27, [.bool b2, .slice p2 l2 K2, .int .i64 e2])]) rfl
          go_roundw
          case rel => exact .inr (.inr ⟨rfl, n1, n2, n3, n4, b5, p5, l5, K5, m5, e5, b6, p6, l6, K6, m6, e6, b7, p7, l7, K7, m7, e7, b8, p8, l8, K8, m8, e8, h5, n5, d5, h6, n6, d6, h7, n7, d7, h8, n8, d8, S⟩)
          case measure => simp [intOf]
        ·
          go_wp2_with fail
          replace S := S.take 4 (L := [(w.heap.size, 29, [.bool b1, .slice p1 l1 K1, .int .i64 e1, .bool b2, .slice p2 l2 K2, .int .i64 e2]), (w.heap.size + 1, 29, [.bool b3, .slice p3 l3 K3, .int .i64 e3, .bool b4, .slice p4 l4 K4, .int .i64 e4]), (w.heap.size + 1 + 1, 29, [.bool false, .slice none 0 0, .int .i64 0, .bool false, .slice none 0 0, .int .i64 0]), (w.heap.size + 1 + 1 + 1, 117, [.bool b5, .slice p5 l5 K5, .int .i64 e5, .bool b6, .slice p6 l6 K6, .int .i64 e6, .bool b7, .slice p7 l7 K7, .int .i64 e7, .bool b8, .slice p8 l8 K8, .int .i64 e8])]) rfl
          go_roundw
          case rel => exact .inr (.inr ⟨rfl, n1, n2, n3, n4, b5, p5, l5, K5, m5, e5, b6, p6, l6, K6, m6, e6, b7, p7, l7, K7, m7, e7, b8, p8, l8, K8, m8, e8, h5, n5, d5, h6, n6, d6, h7, n7, d7, h8, n8, d8, S⟩)
          case measure => simp [intOf]
    ·
      have c3_ := S.c12 3 rfl
      go_upto_region 14 with fail
      clear c3_
      go_cut [14, 15] (fun s14 s15 wx => ∃ g14 g15, s14 = .pointer (some ⟨g14, 0, none⟩) ∧ s15 = .pointer (some ⟨g15, 0, none⟩) ∧ Su w wx [(w.heap.size, 29, [.bool b1, .slice p1 l1 K1, .int .i64 e1, .bool b2, .slice p2 l2 K2, .int .i64 e2]), (w.heap.size + 1, 29, [.bool b3, .slice p3 l3 K3, .int .i64 e3, .bool b4, .slice p4 l4 K4, .int .i64 e4]), (w.heap.size + 1 + 1, 29, [.bool false, .slice none 0 0, .int .i64 0, .bool false, .slice none 0 0, .int .i64 0]), (w.heap.size + 1 + 1 + 1, 117, [.bool b5, .slice p5 l5 K5, .int .i64 e5, .bool b6, .slice p6 l6 K6, .int .i64 e6, .bool b7, .slice p7 l7 K7, .int .i64 e7, .bool b8, .slice p8 l8 K8, .int .i64 e8]), (g14, 27, [.bool b5, .slice p5 l5 K5, .int .i64 e5]), (g15, 27, [.bool b5, .slice p5 l5 K5, .int .i64 e5])] ∧ Hold32 wr wx)
      case first =>
        have HH := (Hold.drew wr).to32
        refine iw8 HH n1 n2 n3 n4 n5 n6 n7 n8 ?_; clear n1 n2 n3 n4 n5 n6 n7 n8; intro n1 n2 n3 n4 n5 n6 n7 n8
        replace S := S.drew
        refine wp_region_held_drew (S := fun W => W.cell? ⟨w.heap.size + 1 + 1 + 1, 0, none⟩ = some (.bool b5) ∧ W.cell? ⟨w.heap.size + 1 + 1 + 1, 1, none⟩ = some (.slice p5 l5 K5) ∧ W.cell? ⟨w.heap.size + 1 + 1 + 1, 2, none⟩ = some (.int .i64 e5)) (by kernel_rfl) (S.c3 3 rfl) (fun hS => ?_)
        generalize wr.drew = w21 at S n1 n2 n3 n4 n5 n6 n7 n8 HH hS ⊢
        refine tk 0 hS ?_
        refine tk 1 hS ?_
        refine tk 2 hS ?_
        refine tk 3 hS ?_
        refine wpAnyH_ready (rs := [4, 5]) (by kernel_rfl) (by simp) (AllReadyH.cons (opOf rfl) (fun KK hKK => ?_) (AllReadyH.cons (opOf rfl) (fun KK hKK => ?_) AllReadyH.nil))
        ·
          go_simp; clear hS
          have H := S.hnew 27 [.bool false, .slice none 0 0, .int .i64 0]
          replace S := S.al 27 [.bool false, .slice none 0 0, .int .i64 0] (w21.heap.size)
          refine iv8 H n1 n2 n3 n4 n5 n6 n7 n8 ?_; clear n1 n2 n3 n4 n5 n6 n7 n8; intro n1 n2 n3 n4 n5 n6 n7 n8; replace HH := HH.trans H.to32; clear H
          refine ho hKK (S.c3 3 rfl) fun hS => ?_
          generalize (w21.alloc (.cells #[.bool false, .slice none 0 0, .int .i64 0] 27)) = w22 at S n1 n2 n3 n4 n5 n6 n7 n8 HH hS ⊢
          clear hKK KK
          refine rd 5 fun KK hKK => ?_
          go_simp; clear hS
          have H := S.hnew 27 [.bool false, .slice none 0 0, .int .i64 0]
          replace S := S.al 27 [.bool false, .slice none 0 0, .int .i64 0] (w22.heap.size)
          refine iv8 H n1 n2 n3 n4 n5 n6 n7 n8 ?_; clear n1 n2 n3 n4 n5 n6 n7 n8; intro n1 n2 n3 n4 n5 n6 n7 n8; replace HH := HH.trans H.to32; clear H
          refine ho hKK (S.c3 3 rfl) fun hS => ?_
          generalize (w22.alloc (.cells #[.bool false, .slice none 0 0, .int .i64 0] 27)) = w23 at S n1 n2 n3 n4 n5 n6 n7 n8 HH hS ⊢
          clear hKK KK
          refine rd 6 fun KK hKK => ?_
          obtain ⟨c0, c1, c2⟩ := S.c3 4 rfl; obtain ⟨f0, f1, f2⟩ := S.f3 4 rfl
          go_simp; clear hS c0 f0 c1 f1 c2 f2
          have HP := S.put3 4 (.bool b5) (.slice p5 l5 K5) (.int .i64 e5) rfl rfl; have H := HP.2; replace S := HP.1; clear HP
          refine iw8 H n1 n2 n3 n4 n5 n6 n7 n8 ?_; clear n1 n2 n3 n4 n5 n6 n7 n8; intro n1 n2 n3 n4 n5 n6 n7 n8; replace HH := HH.trans H; clear H
          refine ho hKK (S.c3 3 rfl) fun hS => ?_
          generalize (((w23.setCell ⟨w21.heap.size, 0, none⟩ (.bool b5)).setCell ⟨w21.heap.size, 1, none⟩ (.slice p5 l5 K5)).setCell ⟨w21.heap.size, 2, none⟩ (.int .i64 e5)) = w24 at S n1 n2 n3 n4 n5 n6 n7 n8 HH hS ⊢
          clear hKK KK
          refine rd 7 fun KK hKK => ?_
          obtain ⟨c0, c1, c2⟩ := S.c3 5 rfl; obtain ⟨f0, f1, f2⟩ := S.f3 5 rfl
          go_simp; clear hS c0 f0 c1 f1 c2 f2
          have HP := S.put3 5 (.bool b5) (.slice p5 l5 K5) (.int .i64 e5) rfl rfl; have H := HP.2; replace S := HP.1; clear HP
          refine iw8 H n1 n2 n3 n4 n5 n6 n7 n8 ?_; clear n1 n2 n3 n4 n5 n6 n7 n8; intro n1 n2 n3 n4 n5 n6 n7 n8; replace HH := HH.trans H; clear H
          refine ho hKK (S.c3 3 rfl) fun hS => ?_
          generalize (((w24.setCell ⟨w22.heap.size, 0, none⟩ (.bool b5)).setCell ⟨w22.heap.size, 1, none⟩ (.slice p5 l5 K5)).setCell ⟨w22.heap.size, 2, none⟩ (.int .i64 e5)) = w25 at S n1 n2 n3 n4 n5 n6 n7 n8 HH hS ⊢
          clear hKK KK
          refine wpAnyH_done (by kernel_rfl) ?_ _
          go_wp2_with fail
          go_meet
          case rel => exact ⟨w21.heap.size, w22.heap.size, rfl, rfl, Su.of S [0, 1, 2, 3, 4, 5] rfl, HH⟩
        ·
          go_simp; clear hS
          have H := S.hnew 27 [.bool false, .slice none 0 0, .int .i64 0]
          replace S := S.al 27 [.bool false, .slice none 0 0, .int .i64 0] (w21.heap.size)
          refine iv8 H n1 n2 n3 n4 n5 n6 n7 n8 ?_; clear n1 n2 n3 n4 n5 n6 n7 n8; intro n1 n2 n3 n4 n5 n6 n7 n8; replace HH := HH.trans H.to32; clear H
          refine ho hKK (S.c3 3 rfl) fun hS => ?_
          generalize (w21.alloc (.cells #[.bool false, .slice none 0 0, .int .i64 0] 27)) = w26 at S n1 n2 n3 n4 n5 n6 n7 n8 HH hS ⊢
          clear hKK KK
          refine rd 4 fun KK hKK => ?_
          go_simp; clear hS
          have H := S.hnew 27 [.bool false, .slice none 0 0, .int .i64 0]
          replace S := S.al 27 [.bool false, .slice none 0 0, .int .i64 0] (w26.heap.size)
          refine iv8 H n1 n2 n3 n4 n5 n6 n7 n8 ?_; clear n1 n2 n3 n4 n5 n6 n7 n8; intro n1 n2 n3 n4 n5 n6 n7 n8; replace HH := HH.trans H.to32; clear H
          refine ho hKK (S.c3 3 rfl) fun hS => ?_
          generalize (w26.alloc (.cells #[.bool false, .slice none 0 0, .int .i64 0] 27)) = w27 at S n1 n2 n3 n4 n5 n6 n7 n8 HH hS ⊢
          clear hKK KK
          refine rd 6 fun KK hKK => ?_
          obtain ⟨c0, c1, c2⟩ := S.c3 5 rfl; obtain ⟨f0, f1, f2⟩ := S.f3 5 rfl
          go_simp; clear hS c0 f0 c1 f1 c2 f2
          have HP := S.put3 5 (.bool b5) (.slice p5 l5 K5) (.int .i64 e5) rfl rfl; have H := HP.2; replace S := HP.1; clear HP
          refine iw8 H n1 n2 n3 n4 n5 n6 n7 n8 ?_; clear n1 n2 n3 n4 n5 n6 n7 n8; intro n1 n2 n3 n4 n5 n6 n7 n8; replace HH := HH.trans H; clear H
          refine ho hKK (S.c3 3 rfl) fun hS => ?_
          generalize (((w27.setCell ⟨w26.heap.size, 0, none⟩ (.bool b5)).setCell ⟨w26.heap.size, 1, none⟩ (.slice p5 l5 K5)).setCell ⟨w26.heap.size, 2, none⟩ (.int .i64 e5)) = w28 at S n1 n2 n3 n4 n5 n6 n7 n8 HH hS ⊢
          clear hKK KK
          refine rd 7 fun KK hKK => ?_
          obtain ⟨c0, c1, c2⟩ := S.c3 4 rfl; obtain ⟨f0, f1, f2⟩ := S.f3 4 rfl
          go_simp; clear hS c0 f0 c1 f1 c2 f2
          have HP := S.put3 4 (.bool b5) (.slice p5 l5 K5) (.int .i64 e5) rfl rfl; have H := HP.2; replace S := HP.1; clear HP
          refine iw8 H n1 n2 n3 n4 n5 n6 n7 n8 ?_; clear n1 n2 n3 n4 n5 n6 n7 n8; intro n1 n2 n3 n4 n5 n6 n7 n8; replace HH := HH.trans H; clear H
          refine ho hKK (S.c3 3 rfl) fun hS => ?_
          generalize (((w28.setCell ⟨w21.heap.size, 0, none⟩ (.bool b5)).setCell ⟨w21.heap.size, 1, none⟩ (.slice p5 l5 K5)).setCell ⟨w21.heap.size, 2, none⟩ (.int .i64 e5)) = w29 at S n1 n2 n3 n4 n5 n6 n7 n8 HH hS ⊢
          clear hKK KK
          refine wpAnyH_done (by kernel_rfl) ?_ _
          go_wp2_with fail
          go_meet
          case rel => exact ⟨w26.heap.size, w21.heap.size, rfl, rfl, Su.of S [0, 1, 2, 3, 5, 4] rfl, HH⟩
      case rest =>
        obtain ⟨g14, g15, rfl, rfl, S, HH⟩ := hcut
        obtain ⟨w30, rfl⟩ : ∃ W : World, W = wc := ⟨_, rfl⟩
        refine iw8 HH n1 n2 n3 n4 n5 n6 n7 n8 ?_; clear n1 n2 n3 n4 n5 n6 n7 n8 HH; intro n1 n2 n3 n4 n5 n6 n7 n8; go_wp2_with fail; clear n1 n2 n3 n4
        go_loopw [53] (fun si wr => (si = .int .i64 0 ∧ IsNat wr (.slice p5 l5 K5) m5.natAbs ∧ IsNat wr (.slice p6 l6 K6) m6.natAbs ∧ IsNat wr (.slice p7 l7 K7) m7.natAbs ∧ IsNat wr (.slice p8 l8 K8) m8.natAbs ∧ ∃ b9 p9 l9 K9 m9 e9 b10 p10 l10 K10 m10 e10, Hid (negB m9 = b9) ∧ IsNat wr (.slice p9 l9 K9) m9.natAbs ∧ Hid (DyF m9 e9 (x * u) (L + L) (H + H)) ∧ Hid (negB m10 = b10) ∧ IsNat wr (.slice p10 l10 K10) m10.natAbs ∧ Hid (DyF m10 e10 (x * u) (L + L) (H + H)) ∧ Su w wr [(w.heap.size, 29, [.bool b1, .slice p1 l1 K1, .int .i64 e1, .bool b2, .slice p2 l2 K2, .int .i64 e2]), (w.heap.size + 1, 29, [.bool b3, .slice p3 l3 K3, .int .i64 e3, .bool b4, .slice p4 l4 K4, .int .i64 e4]), (w.heap.size + 1 + 1, 29, [.bool false, .slice none 0 0, .int .i64 0, .bool false, .slice none 0 0, .int .i64 0]), (w.heap.size + 1 + 1 + 1, 117, [.bool b5, .slice p5 l5 K5, .int .i64 e5, .bool b6, .slice p6 l6 K6, .int .i64 e6, .bool b7, .slice p7 l7 K7, .int .i64 e7, .bool b8, .slice p8 l8 K8, .int .i64 e8]), (g14, 27, [.bool b9, .slice p9 l9 K9, .int .i64 e9]), (g15, 27, [.bool b10, .slice p10 l10 K10, .int .i64 e10])]) ∨ (si = .int .i64 1 ∧ IsNat wr (.slice p5 l5 K5) m5.natAbs ∧ IsNat wr (.slice p6 l6 K6) m6.natAbs ∧ IsNat wr (.slice p7 l7 K7) m7.natAbs ∧ IsNat wr (.slice p8 l8 K8) m8.natAbs ∧ ∃ b9 p9 l9 K9 m9 e9 b10 p10 l10 K10 m10 e10, Hid (negB m9 = b9) ∧ IsNat wr (.slice p9 l9 K9) m9.natAbs ∧ Hid (DyF m9 e9 (min2 (x * u) (x * v)) (L + L) (H + H)) ∧ Hid (negB m10 = b10) ∧ IsNat wr (.slice p10 l10 K10) m10.natAbs ∧ Hid (DyF m10 e10 (max2 (x * u) (x * v)) (L + L) (H + H)) ∧ Su w wr [(w.heap.size, 29, [.bool b1, .slice p1 l1 K1, .int .i64 e1, .bool b2, .slice p2 l2 K2, .int .i64 e2]), (w.heap.size + 1, 29, [.bool b3, .slice p3 l3 K3, .int .i64 e3, .bool b4, .slice p4 l4 K4, .int .i64 e4]), (w.heap.size + 1 + 1, 29, [.bool false, .slice none 0 0, .int .i64 0, .bool false, .slice none 0 0, .int .i64 0]), (w.heap.size + 1 + 1 + 1, 117, [.bool b5, .slice p5 l5 K5, .int .i64 e5, .bool b6, .slice p6 l6 K6, .int .i64 e6, .bool b7, .slice p7 l7 K7, .int .i64 e7, .bool b8, .slice p8 l8 K8, .int .i64 e8]), (g14, 27, [.bool b9, .slice p9 l9 K9, .int .i64 e9]), (g15, 27, [.bool b10, .slice p10 l10 K10, .int .i64 e10])]) ∨ (si = .int .i64 2 ∧ IsNat wr (.slice p5 l5 K5) m5.natAbs ∧ IsNat wr (.slice p6 l6 K6) m6.natAbs ∧ IsNat wr (.slice p7 l7 K7) m7.natAbs ∧ IsNat wr (.slice p8 l8 K8) m8.natAbs ∧ ∃ b9 p9 l9 K9 m9 e9 b10 p10 l10 K10 m10 e10, Hid (negB m9 = b9) ∧ IsNat wr (.slice p9 l9 K9) m9.natAbs ∧ Hid (DyF m9 e9 (min2 (min2 (x * u) (x * v)) (y * u)) (L + L) (H + H)) ∧ Hid (negB m10 = b10) ∧ IsNat wr (.slice p10 l10 K10) m10.natAbs ∧ Hid (DyF m10 e10 (max2 (max2 (x * u) (x * v)) (y * u)) (L + L) (H + H)) ∧ Su w wr [(w.heap.size, 29, [.bool b1, .slice p1 l1 K1, .int .i64 e1, .bool b2, .slice p2 l2 K2, .int .i64 e2]), (w.heap.size + 1, 29, [.bool b3, .slice p3 l3 K3, .int .i64 e3, .bool b4, .slice p4 l4 K4, .int .i64 e4]), (w.heap.size + 1 + 1, 29, [.bool false, .slice none 0 0, .int .i64 0, .bool false, .slice none 0 0, .int .i64 0]), (w.heap.size + 1 + 1 + 1, 117, [.bool b5, .slice p5 l5 K5, .int .i64 e5, .bool b6, .slice p6 l6 K6, .int .i64 e6, .bool b7, .slice p7 l7 K7, .int .i64 e7, .bool b8, .slice p8 l8 K8, .int .i64 e8]), (g14, 27, [.bool b9, .slice p9 l9 K9, .int .i64 e9]), (g15, 27, [.bool b10, .slice p10 l10 K10, .int .i64 e10])]) ∨ (si = .int .i64 3 ∧ IsNat wr (.slice p5 l5 K5) m5.natAbs ∧ IsNat wr (.slice p6 l6 K6) m6.natAbs ∧ IsNat wr (.slice p7 l7 K7) m7.natAbs ∧ IsNat wr (.slice p8 l8 K8) m8.natAbs ∧ ∃ b9 p9 l9 K9 m9 e9 b10 p10 l10 K10 m10 e10, Hid (negB m9 = b9) ∧ IsNat wr (.slice p9 l9 K9) m9.natAbs ∧ Hid (DyF m9 e9 (min2 (min2 (min2 (x * u) (x * v)) (y * u)) (y * v)) (L + L) (H + H)) ∧ Hid (negB m10 = b10) ∧ IsNat wr (.slice p10 l10 K10) m10.natAbs ∧ Hid (DyF m10 e10 (max2 (max2 (max2 (x * u) (x * v)) (y * u)) (y * v)) (L + L) (H + H)) ∧ Su w wr [(w.heap.size, 29, [.bool b1, .slice p1 l1 K1, .int .i64 e1, .bool b2, .slice p2 l2 K2, .int .i64 e2]), (w.heap.size + 1, 29, [.bool b3, .slice p3 l3 K3, .int .i64 e3, .bool b4, .slice p4 l4 K4, .int .i64 e4]), (w.heap.size + 1 + 1, 29, [.bool false, .slice none 0 0, .int .i64 0, .bool false, .slice none 0 0, .int .i64 0]), (w.heap.size + 1 + 1 + 1, 117, [.bool b5, .slice p5 l5 K5, .int .i64 e5, .bool b6, .slice p6 l6 K6, .int .i64 e6, .bool b7, .slice p7 l7 K7, .int .i64 e7, .bool b8, .slice p8 l8 K8, .int .i64 e8]), (g14, 27, [.bool b9, .slice p9 l9 K9, .int .i64 e9]), (g15, 27, [.bool b10, .slice p10 l10 K10, .int .i64 e10])])) (fun si _ => 3 - (intOf si).toNat)
        case atStart => exact .inl ⟨rfl, n5, n6, n7, n8, b5, p5, l5, K5, m5, e5, b5, p5, l5, K5, m5, e5, h5, n5, d5, h5, n5, d5, S⟩
        case round =>
          clear n5 n6 n7 n8 S
          rcases hrel with ⟨rfl, n5, n6, n7, n8, b9, p9, l9, K9, m9, e9, b10, p10, l10, K10, m10, e10, h9, n9, d9, h10, n10, d10, S⟩ | ⟨rfl, n5, n6, n7, n8, b9, p9, l9, K9, m9, e9, b10, p10, l10, K10, m10, e10, h9, n9, d9, h10, n10, d10, S⟩ | ⟨rfl, n5, n6, n7, n8, b9, p9, l9, K9, m9, e9, b10, p10, l10, K10, m10, e10, h9, n9, d9, h10, n10, d10, S⟩ | ⟨rfl, n5, n6, n7, n8, b9, p9, l9, K9, m9, e9, b10, p10, l10, K10, m10, e10, h9, n9, d9, h10, n10, d10, S⟩
          ·
            have c3_ := S.c12 3 rfl
            have H := S.hnew 27 [.bool b6, .slice p6 l6 K6, .int .i64 e6]
            replace S := S.al 27 [.bool b6, .slice p6 l6 K6, .int .i64 e6] (wr.heap.size)
            refine iv6 H n5 n6 n7 n8 n9 n10 ?_; clear n5 n6 n7 n8 n9 n10; intro n5 n6 n7 n8 n9 n10
            clear H
            go_upto_region 18 with fail
            clear c3_
            generalize (wr.alloc (.cells #[.bool b6, .slice p6 l6 K6, .int .i64 e6] 27)) = w61 at S n5 n6 n7 n8 n9 n10 ⊢
            have HH := (Hold.drew w61).to32
            refine iw6 HH n5 n6 n7 n8 n9 n10 ?_; clear n5 n6 n7 n8 n9 n10; intro n5 n6 n7 n8 n9 n10
            replace S := S.drew
            refine wp_region_held_drew (S := fun W => W.cell? ⟨wr.heap.size, 0, none⟩ = some (.bool b6) ∧ W.cell? ⟨wr.heap.size, 1, none⟩ = some (.slice p6 l6 K6) ∧ W.cell? ⟨wr.heap.size, 2, none⟩ = some (.int .i64 e6)) (by kernel_rfl) (S.c3 6 rfl) (fun hS => ?_)
            generalize w61.drew = w62 at S n5 n6 n7 n8 n9 n10 HH hS ⊢
            refine tk 1 hS ?_
            refine tk 4 hS ?_
            refine wpAnyH_ready (rs := [0, 3]) (by kernel_rfl) (by simp) (AllReadyH.cons (opOf rfl) (fun KK hKK => ?_) (AllReadyH.cons (opOf rfl) (fun KK hKK => ?_) AllReadyH.nil))
            ·
              have c4_ := S.c3 4 rfl; go_simp; clear c4_
              refine ho hKK hS fun hS => ?_
              clear hKK KK
              refine wpAnyH_ready (rs := [2, 3]) (by kernel_rfl) (by simp) (AllReadyH.cons (opOf rfl) (fun KK hKK => ?_) (AllReadyH.cons (opOf rfl) (fun KK hKK => ?_) AllReadyH.nil))
              ·
                go_simp; clear hS
                refine S.cl (dmin_any ⟨b9, p9, l9, K9, m9, e9, rfl, h9, n9, d9⟩ ⟨b6, p6, l6, K6, m6, e6, rfl, h6, n6, d6⟩ HK.out.1) ?_; clear S; rintro e w63 ⟨_, rfl, b11, p11, l11, K11, m11, e11, rfl, h11, n11, d11⟩ S H
                refine iv6 H n5 n6 n7 n8 n9 n10 ?_; clear n5 n6 n7 n8 n9 n10; intro n5 n6 n7 n8 n9 n10; replace HH := HH.trans H.to32; clear H
                go_wp2_with fail
                refine ho hKK (S.c3 6 rfl) fun hS => ?_
                clear hKK KK
                refine rd 3 fun KK hKK => ?_
                have c5_ := S.c3 5 rfl; go_simp; clear c5_
                refine ho hKK hS fun hS => ?_
                clear hKK KK
                refine rd 5 fun KK hKK => ?_
                go_simp; clear hS
                refine S.cl (dmax_any ⟨b10, p10, l10, K10, m10, e10, rfl, h10, n10, d10⟩ ⟨b6, p6, l6, K6, m6, e6, rfl, h6, n6, d6⟩ HK.out.1) ?_; clear S; rintro e w64 ⟨_, rfl, b12, p12, l12, K12, m12, e12, rfl, h12, n12, d12⟩ S H
                refine iv7 H n5 n6 n7 n8 n9 n10 n11 ?_; clear n5 n6 n7 n8 n9 n10 n11; intro n5 n6 n7 n8 n9 n10 n11; replace HH := HH.trans H.to32; clear H
                go_wp2_with fail
                refine ho hKK (S.c3 6 rfl) fun hS => ?_
                clear hKK KK
                refine rd 6 fun KK hKK => ?_
                obtain ⟨c0, c1, c2⟩ := S.c3 4 rfl; obtain ⟨f0, f1, f2⟩ := S.f3 4 rfl
                go_simp; clear hS c0 f0 c1 f1 c2 f2
                have HP := S.put3 4 (.bool b11) (.slice p11 l11 K11) (.int .i64 e11) rfl rfl; have H := HP.2; replace S := HP.1; clear HP
                refine iw8 H n5 n6 n7 n8 n9 n10 n11 n12 ?_; clear n5 n6 n7 n8 n9 n10 n11 n12; intro n5 n6 n7 n8 n9 n10 n11 n12; replace HH := HH.trans H; clear H
                refine ho hKK (S.c3 6 rfl) fun hS => ?_
                generalize (((w64.setCell ⟨g14, 0, none⟩ (.bool b11)).setCell ⟨g14, 1, none⟩ (.slice p11 l11 K11)).setCell ⟨g14, 2, none⟩ (.int .i64 e11)) = w65 at S n5 n6 n7 n8 n9 n10 n11 n12 HH hS ⊢
                clear hKK KK
                refine rd 7 fun KK hKK => ?_
                obtain ⟨c0, c1, c2⟩ := S.c3 5 rfl; obtain ⟨f0, f1, f2⟩ := S.f3 5 rfl
                go_simp; clear hS c0 f0 c1 f1 c2 f2
                have HP := S.put3 5 (.bool b12) (.slice p12 l12 K12) (.int .i64 e12) rfl rfl; have H := HP.2; replace S := HP.1; clear HP
                refine iw8 H n5 n6 n7 n8 n9 n10 n11 n12 ?_; clear n5 n6 n7 n8 n9 n10 n11 n12; intro n5 n6 n7 n8 n9 n10 n11 n12; replace HH := HH.trans H; clear H
                refine ho hKK (S.c3 6 rfl) fun hS => ?_
                generalize (((w65.setCell ⟨g15, 0, none⟩ (.bool b12)).setCell ⟨g15, 1, none⟩ (.slice p12 l12 K12)).setCell ⟨g15, 2, none⟩ (.int .i64 e12)) = w66 at S n5 n6 n7 n8 n9 n10 n11 n12 HH hS ⊢
                clear hKK KK
                refine wpAnyH_done (by kernel_rfl) ?_ _
                clear hS HH; go_wp2_with fail
                replace S := S.take 6 (L := [(w.heap.size, 29, [.bool b1, .slice p1 l1 K1, .int .i64 e1, .bool b2, .slice p2 l2 K2, .int .i64 e2]), (w.heap.size + 1, 29, [.bool b3, .slice p3 l3 K3, .int .i64 e3, .bool b4, .slice p4 l4 K4, .int .i64 e4]), (w.heap.size + 1 + 1, 29, [.bool false, .slice none 0 0, .int .i64 0, .bool false, .slice none 0 0, .int .i64 0]), (w.heap.size + 1 + 1 + 1, 117, [.bool b5, .slice p5 l5 K5, .int .i64 e5, .bool b6, .slice p6 l6 K6, .int .i64 e6, .bool b7, .slice p7 l7 K7, .int .i64 e7, .bool b8, .slice p8 l8 K8, .int .i64 e8]), (g14, 27, [.bool b11, .slice p11 l11 K11, .int .i64 e11]), (g15, 27, [.bool b12, .slice p12 l12 K12, .int .i64 e12])]) rfl
                go_roundw
                case rel => exact .inr (.inl ⟨rfl, n5, n6, n7, n8, b11, p11, l11, K11, m11, e11, b12, p12, l12, K12, m12, e12, h11, n11, d11, h12, n12, d12, S⟩)
                case measure => simp [intOf]
              ·
                have c5_ := S.c3 5 rfl; go_simp; clear c5_
                refine ho hKK hS fun hS => ?_
                clear hKK KK
                refine rd 2 fun KK hKK => ?_
                go_simp; clear hS
                refine S.cl (dmin_any ⟨b9, p9, l9, K9, m9, e9, rfl, h9, n9, d9⟩ ⟨b6, p6, l6, K6, m6, e6, rfl, h6, n6, d6⟩ HK.out.1) ?_; clear S; rintro e w67 ⟨_, rfl, b11, p11, l11, K11, m11, e11, rfl, h11, n11, d11⟩ S H
                refine iv6 H n5 n6 n7 n8 n9 n10 ?_; clear n5 n6 n7 n8 n9 n10; intro n5 n6 n7 n8 n9 n10; replace HH := HH.trans H.to32; clear H
                go_wp2_with fail
                refine ho hKK (S.c3 6 rfl) fun hS => ?_
                clear hKK KK
                refine rd 5 fun KK hKK => ?_
                go_simp; clear hS
                refine S.cl (dmax_any ⟨b10, p10, l10, K10, m10, e10, rfl, h10, n10, d10⟩ ⟨b6, p6, l6, K6, m6, e6, rfl, h6, n6, d6⟩ HK.out.1) ?_; clear S; rintro e w68 ⟨_, rfl, b12, p12, l12, K12, m12, e12, rfl, h12, n12, d12⟩ S H
                refine iv7 H n5 n6 n7 n8 n9 n10 n11 ?_; clear n5 n6 n7 n8 n9 n10 n11; intro n5 n6 n7 n8 n9 n10 n11; replace HH := HH.trans H.to32; clear H
                go_wp2_with fail
                refine ho hKK (S.c3 6 rfl) fun hS => ?_
                clear hKK KK
                refine rd 6 fun KK hKK => ?_
                obtain ⟨c0, c1, c2⟩ := S.c3 4 rfl; obtain ⟨f0, f1, f2⟩ := S.f3 4 rfl
                go_simp; clear hS c0 f0 c1 f1 c2 f2
                have HP := S.put3 4 (.bool b11) (.slice p11 l11 K11) (.int .i64 e11) rfl rfl; have H := HP.2; replace S := HP.1; clear HP
                refine iw8 H n5 n6 n7 n8 n9 n10 n11 n12 ?_; clear n5 n6 n7 n8 n9 n10 n11 n12; intro n5 n6 n7 n8 n9 n10 n11 n12; replace HH := HH.trans H; clear H
                refine ho hKK (S.c3 6 rfl) fun hS => ?_
                generalize (((w68.setCell ⟨g14, 0, none⟩ (.bool b11)).setCell ⟨g14, 1, none⟩ (.slice p11 l11 K11)).setCell ⟨g14, 2, none⟩ (.int .i64 e11)) = w69 at S n5 n6 n7 n8 n9 n10 n11 n12 HH hS ⊢
                clear hKK KK
                refine rd 7 fun KK hKK => ?_
                obtain ⟨c0, c1, c2⟩ := S.c3 5 rfl; obtain ⟨f0, f1, f2⟩ := S.f3 5 rfl
                go_simp; clear hS c0 f0 c1 f1 c2 f2
                have HP := S.put3 5 (.bool b12) (.slice p12 l12 K12) (.int .i64 e12) rfl rfl; have H := HP.2; replace S := HP.1; clear HP
                refine iw8 H n5 n6 n7 n8 n9 n10 n11 n12 ?_; clear n5 n6 n7 n8 n9 n10 n11 n12; intro n5 n6 n7 n8 n9 n10 n11 n12; replace HH := HH.trans H; clear H
                refine ho hKK (S.c3 6 rfl) fun hS => ?_
                generalize (((w69.setCell ⟨g15, 0, none⟩ (.bool b12)).setCell ⟨g15, 1, none⟩ (.slice p12 l12 K12)).setCell ⟨g15, 2, none⟩ (.int .i64 e12)) = w70 at S n5 n6 n7 n8 n9 n10 n11 n12 HH hS ⊢
                clear hKK KK
                refine wpAnyH_done (by kernel_rfl) ?_ _
                clear hS HH; go_wp2_with fail
                replace S := S.take 6 (L := [(w.heap.size, 29, [.bool b1, .slice p1 l1 K1, .int .i64 e1, .bool b2, .slice p2 l2 K2, .int .i64 e2]), (w.heap.size + 1, 29, [.bool b3, .slice p3 l3 K3, .int .i64 e3, .bool b4, .slice p4 l4 K4, .int .i64 e4]), (w.heap.size + 1 + 1, 29, [.bool false, .slice none 0 0, .int .i64 0, .bool false, .slice none 0 0, .int .i64 0]), (w.heap.size + 1 + 1 + 1, 117, [.bool b5, .slice p5 l5 K5, .int .i64 e5, .bool b6, .slice p6 l6 K6, .int .i64 e6, .bool b7, .slice p7 l7 K7, .int .i64 e7, .bool b8, .slice p8 l8 K8, .int .i64 e8]), (g14, 27, [.bool b11, .slice p11 l11 K11, .int .i64 e11]), (g15, 27, [.bool b12, .slice p12 l12 K12, .int .i64 e12])]) rfl
                go_roundw
                case rel => exact .inr (.inl ⟨rfl, n5, n6, n7, n8, b11, p11, l11, K11, m11, e11, b12, p12, l12, K12, m12, e12, h11, n11, d11, h12, n12, d12, S⟩)
                case measure => simp [intOf]
            ·
              have c5_ := S.c3 5 rfl; go_simp; clear c5_
              refine ho hKK hS fun hS => ?_
              clear hKK KK
              refine rd 0 fun KK hKK => ?_
              have c4_ := S.c3 4 rfl; go_simp; clear c4_
              refine ho hKK hS fun hS => ?_
              clear hKK KK
              refine rd 2 fun KK hKK => ?_
              go_simp; clear hS
              refine S.cl (dmin_any ⟨b9, p9, l9, K9, m9, e9, rfl, h9, n9, d9⟩ ⟨b6, p6, l6, K6, m6, e6, rfl, h6, n6, d6⟩ HK.out.1) ?_; clear S; rintro e w71 ⟨_, rfl, b11, p11, l11, K11, m11, e11, rfl, h11, n11, d11⟩ S H
              refine iv6 H n5 n6 n7 n8 n9 n10 ?_; clear n5 n6 n7 n8 n9 n10; intro n5 n6 n7 n8 n9 n10; replace HH := HH.trans H.to32; clear H
              go_wp2_with fail
              refine ho hKK (S.c3 6 rfl) fun hS => ?_
              clear hKK KK
              refine rd 5 fun KK hKK => ?_
              go_simp; clear hS
              refine S.cl (dmax_any ⟨b10, p10, l10, K10, m10, e10, rfl, h10, n10, d10⟩ ⟨b6, p6, l6, K6, m6, e6, rfl, h6, n6, d6⟩ HK.out.1) ?_; clear S; rintro e w72 ⟨_, rfl, b12, p12, l12, K12, m12, e12, rfl, h12, n12, d12⟩ S H
              refine iv7 H n5 n6 n7 n8 n9 n10 n11 ?_; clear n5 n6 n7 n8 n9 n10 n11; intro n5 n6 n7 n8 n9 n10 n11; replace HH := HH.trans H.to32; clear H
              go_wp2_with fail
              refine ho hKK (S.c3 6 rfl) fun hS => ?_
              clear hKK KK
              refine rd 6 fun KK hKK => ?_
              obtain ⟨c0, c1, c2⟩ := S.c3 4 rfl; obtain ⟨f0, f1, f2⟩ := S.f3 4 rfl
              go_simp; clear hS c0 f0 c1 f1 c2 f2
              have HP := S.put3 4 (.bool b11) (.slice p11 l11 K11) (.int .i64 e11) rfl rfl; have H := HP.2; replace S := HP.1; clear HP
              refine iw8 H n5 n6 n7 n8 n9 n10 n11 n12 ?_; clear n5 n6 n7 n8 n9 n10 n11 n12; intro n5 n6 n7 n8 n9 n10 n11 n12; replace HH := HH.trans H; clear H
              refine ho hKK (S.c3 6 rfl) fun hS => ?_
              generalize (((w72.setCell ⟨g14, 0, none⟩ (.bool b11)).setCell ⟨g14, 1, none⟩ (.slice p11 l11 K11)).setCell ⟨g14, 2, none⟩ (.int .i64 e11)) = w73 at S n5 n6 n7 n8 n9 n10 n11 n12 HH hS ⊢
              clear hKK KK
              refine rd 7 fun KK hKK => ?_
              obtain ⟨c0, c1, c2⟩ := S.c3 5 rfl; obtain ⟨f0, f1, f2⟩ := S.f3 5 rfl
              go_simp; clear hS c0 f0 c1 f1 c2 f2
              have HP := S.put3 5 (.bool b12) (.slice p12 l12 K12) (.int .i64 e12) rfl rfl; have H := HP.2; replace S := HP.1; clear HP
              refine iw8 H n5 n6 n7 n8 n9 n10 n11 n12 ?_; clear n5 n6 n7 n8 n9 n10 n11 n12; intro n5 n6 n7 n8 n9 n10 n11 n12; replace HH := HH.trans H; clear H
              refine ho hKK (S.c3 6 rfl) fun hS => ?_
              generalize (((w73.setCell ⟨g15, 0, none⟩ (.bool b12)).setCell ⟨g15, 1, none⟩ (.slice p12 l12 K12)).setCell ⟨g15, 2, none⟩ (.int .i64 e12)) = w74 at S n5 n6 n7 n8 n9 n10 n11 n12 HH hS ⊢
              clear hKK KK
              refine wpAnyH_done (by kernel_rfl) ?_ _
              clear hS HH; go_wp2_with fail
              replace S := S.take 6 (L := [(w.heap.size, 29, [.bool b1, .slice p1 l1 K1, .int .i64 e1, .bool b2, .slice p2 l2 K2, .int .i64 e2]), (w.heap.size + 1, 29, [.bool b3, .slice p3 l3 K3, .int .i64 e3, .bool b4, .slice p4 l4 K4, .int .i64 e4]), (w.heap.size + 1 + 1, 29, [.bool false, .slice none 0 0, .int .i64 0, .bool false, .slice none 0 0, .int .i64 0]), (w.heap.size + 1 + 1 + 1, 117, [.bool b5, .slice p5 l5 K5, .int .i64 e5, .bool b6, .slice p6 l6 K6, .int .i64 e6, .bool b7, .slice p7 l7 K7, .int .i64 e7, .bool b8, .slice p8 l8 K8, .int .i64 e8]), (g14, 27, [.bool b11, .slice p11 l11 K11, .int .i64 e11]), (g15, 27, [.bool b12, .slice p12 l12 K12, .int .i64 e12])]) rfl
              go_roundw
              case rel => exact .inr (.inl ⟨rfl, n5, n6, n7, n8, b11, p11, l11, K11, m11, e11, b12, p12, l12, K12, m12, e12, h11, n11, d11, h12, n12, d12, S⟩)
              case measure => simp [intOf]
          ·
            have c3_ := S.c12 3 rfl
            have H := S.hnew 27 [.bool b7, .slice p7 l7 K7, .int .i64 e7]
            replace S := S.al 27 [.bool b7, .slice p7 l7 K7, .int .i64 e7] (wr.heap.size)
            refine iv6 H n5 n6 n7 n8 n9 n10 ?_; clear n5 n6 n7 n8 n9 n10; intro n5 n6 n7 n8 n9 n10
            clear H
            go_upto_region 18 with fail
            clear c3_
            generalize (wr.alloc (.cells #[.bool b7, .slice p7 l7 K7, .int .i64 e7] 27)) = w61 at S n5 n6 n7 n8 n9 n10 ⊢
            have HH := (Hold.drew w61).to32
            refine iw6 HH n5 n6 n7 n8 n9 n10 ?_; clear n5 n6 n7 n8 n9 n10; intro n5 n6 n7 n8 n9 n10
            replace S := S.drew
            refine wp_region_held_drew (S := fun W => W.cell? ⟨wr.heap.size, 0, none⟩ = some (.bool b7) ∧ W.cell? ⟨wr.heap.size, 1, none⟩ = some (.slice p7 l7 K7) ∧ W.cell? ⟨wr.heap.size, 2, none⟩ = some (.int .i64 e7)) (by kernel_rfl) (S.c3 6 rfl) (fun hS => ?_)
            generalize w61.drew = w62 at S n5 n6 n7 n8 n9 n10 HH hS ⊢
            refine tk 1 hS ?_
            refine tk 4 hS ?_
            refine wpAnyH_ready (rs := [0, 3]) (by kernel_rfl) (by simp) (AllReadyH.cons (opOf rfl) (fun KK hKK => ?_) (AllReadyH.cons (opOf rfl) (fun KK hKK => ?_) AllReadyH.nil))
            ·
              have c4_ := S.c3 4 rfl; go_simp; clear c4_
              refine ho hKK hS fun hS => ?_
              clear hKK KK
              refine wpAnyH_ready (rs := [2, 3]) (by kernel_rfl) (by simp) (AllReadyH.cons (opOf rfl) (fun KK hKK => ?_) (AllReadyH.cons (opOf rfl) (fun KK hKK => ?_) AllReadyH.nil))
              ·
                go_simp; clear hS
                refine S.cl (dmin_any ⟨b9, p9, l9, K9, m9, e9, rfl, h9, n9, d9⟩ ⟨b7, p7, l7, K7, m7, e7, rfl, h7, n7, d7⟩ HK.out.1) ?_; clear S; rintro e w63 ⟨_, rfl, b11, p11, l11, K11, m11, e11, rfl, h11, n11, d11⟩ S H
                refine iv6 H n5 n6 n7 n8 n9 n10 ?_; clear n5 n6 n7 n8 n9 n10; intro n5 n6 n7 n8 n9 n10; replace HH := HH.trans H.to32; clear H
                go_wp2_with fail
                refine ho hKK (S.c3 6 rfl) fun hS => ?_
                clear hKK KK
                refine rd 3 fun KK hKK => ?_
                have c5_ := S.c3 5 rfl; go_simp; clear c5_
                refine ho hKK hS fun hS => ?_
                clear hKK KK
                refine rd 5 fun KK hKK => ?_
                go_simp; clear hS
                refine S.cl (dmax_any ⟨b10, p10, l10, K10, m10, e10, rfl, h10, n10, d10⟩ ⟨b7, p7, l7, K7, m7, e7, rfl, h7, n7, d7⟩ HK.out.1) ?_; clear S; rintro e w64 ⟨_, rfl, b12, p12, l12, K12, m12, e12, rfl, h12, n12, d12⟩ S H
                refine iv7 H n5 n6 n7 n8 n9 n10 n11 ?_; clear n5 n6 n7 n8 n9 n10 n11; intro n5 n6 n7 n8 n9 n10 n11; replace HH := HH.trans H.to32; clear H
                go_wp2_with fail
                refine ho hKK (S.c3 6 rfl) fun hS => ?_
                clear hKK KK
                refine rd 6 fun KK hKK => ?_
                obtain ⟨c0, c1, c2⟩ := S.c3 4 rfl; obtain ⟨f0, f1, f2⟩ := S.f3 4 rfl
                go_simp; clear hS c0 f0 c1 f1 c2 f2
                have HP := S.put3 4 (.bool b11) (.slice p11 l11 K11) (.int .i64 e11) rfl rfl; have H := HP.2; replace S := HP.1; clear HP
                refine iw8 H n5 n6 n7 n8 n9 n10 n11 n12 ?_; clear n5 n6 n7 n8 n9 n10 n11 n12; intro n5 n6 n7 n8 n9 n10 n11 n12; replace HH := HH.trans H; clear H
                refine ho hKK (S.c3 6 rfl) fun hS => ?_
                generalize (((w64.setCell ⟨g14, 0, none⟩ (.bool b11)).setCell ⟨g14, 1, none⟩ (.slice p11 l11 K11)).setCell ⟨g14, 2, none⟩ (.int .i64 e11)) = w65 at S n5 n6 n7 n8 n9 n10 n11 n12 HH hS ⊢
                clear hKK KK
                refine rd 7 fun KK hKK => ?_
                obtain ⟨c0, c1, c2⟩ := S.c3 5 rfl; obtain ⟨f0, f1, f2⟩ := S.f3 5 rfl
                go_simp; clear hS c0 f0 c1 f1 c2 f2
                have HP := S.put3 5 (.bool b12) (.slice p12 l12 K12) (.int .i64 e12) rfl rfl; have H := HP.2; replace S := HP.1; clear HP
                refine iw8 H n5 n6 n7 n8 n9 n10 n11 n12 ?_; clear n5 n6 n7 n8 n9 n10 n11 n12; intro n5 n6 n7 n8 n9 n10 n11 n12; replace HH := HH.trans H; clear H
                refine ho hKK (S.c3 6 rfl) fun hS => ?_
                generalize (((w65.setCell ⟨g15, 0, none⟩ (.bool b12)).setCell ⟨g15, 1, none⟩ (.slice p12 l12 K12)).setCell ⟨g15, 2, none⟩ (.int .i64 e12)) = w66 at S n5 n6 n7 n8 n9 n10 n11 n12 HH hS ⊢
                clear hKK KK
                refine wpAnyH_done (by kernel_rfl) ?_ _
                clear hS HH; go_wp2_with fail
                replace S := S.take 6 (L := [(w.heap.size, 29, [.bool b1, .slice p1 l1 K1, .int .i64 e1, .bool b2, .slice p2 l2 K2, .int .i64 e2]), (w.heap.size + 1, 29, [.bool b3, .slice p3 l3 K3, .int .i64 e3, .bool b4, .slice p4 l4 K4, .int .i64 e4]), (w.heap.size + 1 + 1, 29, [.bool false, .slice none 0 0, .int .i64 0, .bool false, .slice none 0 0, .int .i64 0]), (w.heap.size + 1 + 1 + 1, 117, [.bool b5, .slice p5 l5 K5, .int .i64 e5, .bool b6, .slice p6 l6 K6, .int .i64 e6, .bool b7, .slice p7 l7 K7, .int .i64 e7, .bool b8, .slice p8 l8 K8, .int .i64 e8]), (g14, 27, [.bool b11, .slice p11 l11 K11, .int .i64 e11]), (g15, 27, [.bool b12, .slice p12 l12 K12, .int .i64 e12])]) rfl
                go_roundw
                case rel => exact .inr (.inr (.inl ⟨rfl, n5, n6, n7, n8, b11, p11, l11, K11, m11, e11, b12, p12, l12, K12, m12, e12, h11, n11, d11, h12, n12, d12, S⟩))
                case measure => simp [intOf]
              ·
                have c5_ := S.c3 5 rfl; go_simp; clear c5_
                refine ho hKK hS fun hS => ?_
                clear hKK KK
                refine rd 2 fun KK hKK => ?_
                go_simp; clear hS
                refine S.cl (dmin_any ⟨b9, p9, l9, K9, m9, e9, rfl, h9, n9, d9⟩ ⟨b7, p7, l7, K7, m7, e7, rfl, h7, n7, d7⟩ HK.out.1) ?_; clear S; rintro e w67 ⟨_, rfl, b11, p11, l11, K11, m11, e11, rfl, h11, n11, d11⟩ S H
                refine iv6 H n5 n6 n7 n8 n9 n10 ?_; clear n5 n6 n7 n8 n9 n10; intro n5 n6 n7 n8 n9 n10; replace HH := HH.trans H.to32; clear H
                go_wp2_with fail
                refine ho hKK (S.c3 6 rfl) fun hS => ?_
                clear hKK KK
                refine rd 5 fun KK hKK => ?_
                go_simp; clear hS
                refine S.cl (dmax_any ⟨b10, p10, l10, K10, m10, e10, rfl, h10, n10, d10⟩ ⟨b7, p7, l7, K7, m7, e7, rfl, h7, n7, d7⟩ HK.out.1) ?_; clear S; rintro e w68 ⟨_, rfl, b12, p12, l12, K12, m12, e12, rfl, h12, n12, d12⟩ S H
                refine iv7 H n5 n6 n7 n8 n9 n10 n11 ?_; clear n5 n6 n7 n8 n9 n10 n11; intro n5 n6 n7 n8 n9 n10 n11; replace HH := HH.trans H.to32; clear H
                go_wp2_with fail
                refine ho hKK (S.c3 6 rfl) fun hS => ?_
                clear hKK KK
                refine rd 6 fun KK hKK => ?_
                obtain ⟨c0, c1, c2⟩ := S.c3 4 rfl; obtain ⟨f0, f1, f2⟩ := S.f3 4 rfl
                go_simp; clear hS c0 f0 c1 f1 c2 f2
                have HP := S.put3 4 (.bool b11) (.slice p11 l11 K11) (.int .i64 e11) rfl rfl; have H := HP.2; replace S := HP.1; clear HP
                refine iw8 H n5 n6 n7 n8 n9 n10 n11 n12 ?_; clear n5 n6 n7 n8 n9 n10 n11 n12; intro n5 n6 n7 n8 n9 n10 n11 n12; replace HH := HH.trans H; clear H
                refine ho hKK (S.c3 6 rfl) fun hS => ?_
                generalize (((w68.setCell ⟨g14, 0, none⟩ (.bool b11)).setCell ⟨g14, 1, none⟩ (.slice p11 l11 K11)).setCell ⟨g14, 2, none⟩ (.int .i64 e11)) = w69 at S n5 n6 n7 n8 n9 n10 n11 n12 HH hS ⊢
                clear hKK KK
                refine rd 7 fun KK hKK => ?_
                obtain ⟨c0, c1, c2⟩ := S.c3 5 rfl; obtain ⟨f0, f1, f2⟩ := S.f3 5 rfl
                go_simp; clear hS c0 f0 c1 f1 c2 f2
                have HP := S.put3 5 (.bool b12) (.slice p12 l12 K12) (.int .i64 e12) rfl rfl; have H := HP.2; replace S := HP.1; clear HP
                refine iw8 H n5 n6 n7 n8 n9 n10 n11 n12 ?_; clear n5 n6 n7 n8 n9 n10 n11 n12; intro n5 n6 n7 n8 n9 n10 n11 n12; replace HH := HH.trans H; clear H
                refine ho hKK (S.c3 6 rfl) fun hS => ?_
                generalize (((w69.setCell ⟨g15, 0, none⟩ (.bool b12)).setCell ⟨g15, 1, none⟩ (.slice p12 l12 K12)).setCell ⟨g15, 2, none⟩ (.int .i64 e12)) = w70 at S n5 n6 n7 n8 n9 n10 n11 n12 HH hS ⊢
                clear hKK KK
                refine wpAnyH_done (by kernel_rfl) ?_ _
                clear hS HH; go_wp2_with fail
                replace S := S.take 6 (L := [(w.heap.size, 29, [.bool b1, .slice p1 l1 K1, .int .i64 e1, .bool b2, .slice p2 l2 K2, .int .i64 e2]), (w.heap.size + 1, 29, [.bool b3, .slice p3 l3 K3, .int .i64 e3, .bool b4, .slice p4 l4 K4, .int .i64 e4]), (w.heap.size + 1 + 1, 29, [.bool false, .slice none 0 0, .int .i64 0, .bool false, .slice none 0 0, .int .i64 0]), (w.heap.size + 1 + 1 + 1, 117, [.bool b5, .slice p5 l5 K5, .int .i64 e5, .bool b6, .slice p6 l6 K6, .int .i64 e6, .bool b7, .slice p7 l7 K7, .int .i64 e7, .bool b8, .slice p8 l8 K8, .int .i64 e8]), (g14, 27, [.bool b11, .slice p11 l11 K11, .int .i64 e11]), (g15, 27, [.bool b12, .slice p12 l12 K12, .int .i64 e12])]) rfl
                go_roundw
                case rel => exact .inr (.inr (.inl ⟨rfl, n5, n6, n7, n8, b11, p11, l11, K11, m11, e11, b12, p12, l12, K12, m12, e12, h11, n11, d11, h12, n12, d12, S⟩))
                case measure => simp [intOf]
            ·
              have c5_ := S.c3 5 rfl; go_simp; clear c5_
              refine ho hKK hS fun hS => ?_
              clear hKK KK
              refine rd 0 fun KK hKK => ?_
              have c4_ := S.c3 4 rfl; go_simp; clear c4_
              refine ho hKK hS fun hS => ?_
              clear hKK KK
              refine rd 2 fun KK hKK => ?_
              go_simp; clear hS
              refine S.cl (dmin_any ⟨b9, p9, l9, K9, m9, e9, rfl, h9, n9, d9⟩ ⟨b7, p7, l7, K7, m7, e7, rfl, h7, n7, d7⟩ HK.out.1) ?_; clear S; rintro e w71 ⟨_, rfl, b11, p11, l11, K11, m11, e11, rfl, h11, n11, d11⟩ S H
              refine iv6 H n5 n6 n7 n8 n9 n10 ?_; clear n5 n6 n7 n8 n9 n10; intro n5 n6 n7 n8 n9 n10; replace HH := HH.trans H.to32; clear H
              go_wp2_with fail
              refine ho hKK (S.c3 6 rfl) fun hS => ?_
              clear hKK KK
              refine rd 5 fun KK hKK => ?_
              go_simp; clear hS
              refine S.cl (dmax_any ⟨b10, p10, l10, K10, m10, e10, rfl, h10, n10, d10⟩ ⟨b7, p7, l7, K7, m7, e7, rfl, h7, n7, d7⟩ HK.out.1) ?_; clear S; rintro e w72 ⟨_, rfl, b12, p12, l12, K12, m12, e12, rfl, h12, n12, d12⟩ S H
              refine iv7 H n5 n6 n7 n8 n9 n10 n11 ?_; clear n5 n6 n7 n8 n9 n10 n11; intro n5 n6 n7 n8 n9 n10 n11; replace HH := HH.trans H.to32; clear H
              go_wp2_with fail
              refine ho hKK (S.c3 6 rfl) fun hS => ?_
              clear hKK KK
              refine rd 6 fun KK hKK => ?_
              obtain ⟨c0, c1, c2⟩ := S.c3 4 rfl; obtain ⟨f0, f1, f2⟩ := S.f3 4 rfl
              go_simp; clear hS c0 f0 c1 f1 c2 f2
              have HP := S.put3 4 (.bool b11) (.slice p11 l11 K11) (.int .i64 e11) rfl rfl; have H := HP.2; replace S := HP.1; clear HP
              refine iw8 H n5 n6 n7 n8 n9 n10 n11 n12 ?_; clear n5 n6 n7 n8 n9 n10 n11 n12; intro n5 n6 n7 n8 n9 n10 n11 n12; replace HH := HH.trans H; clear H
              refine ho hKK (S.c3 6 rfl) fun hS => ?_
              generalize (((w72.setCell ⟨g14, 0, none⟩ (.bool b11)).setCell ⟨g14, 1, none⟩ (.slice p11 l11 K11)).setCell ⟨g14, 2, none⟩ (.int .i64 e11)) = w73 at S n5 n6 n7 n8 n9 n10 n11 n12 HH hS ⊢
              clear hKK KK
              refine rd 7 fun KK hKK => ?_
              obtain ⟨c0, c1, c2⟩ := S.c3 5 rfl; obtain ⟨f0, f1, f2⟩ := S.f3 5 rfl
              go_simp; clear hS c0 f0 c1 f1 c2 f2
              have HP := S.put3 5 (.bool b12) (.slice p12 l12 K12) (.int .i64 e12) rfl rfl; have H := HP.2; replace S := HP.1; clear HP
              refine iw8 H n5 n6 n7 n8 n9 n10 n11 n12 ?_; clear n5 n6 n7 n8 n9 n10 n11 n12; intro n5 n6 n7 n8 n9 n10 n11 n12; replace HH := HH.trans H; clear H
              refine ho hKK (S.c3 6 rfl) fun hS => ?_
              generalize (((w73.setCell ⟨g15, 0, none⟩ (.bool b12)).setCell ⟨g15, 1, none⟩ (.slice p12 l12 K12)).setCell ⟨g15, 2, none⟩ (.int .i64 e12)) = w74 at S n5 n6 n7 n8 n9 n10 n11 n12 HH hS ⊢
              clear hKK KK
              refine wpAnyH_done (by kernel_rfl) ?_ _
              clear hS HH; go_wp2_with fail
              replace S := S.take 6 (L := [(w.heap.size, 29, [.bool b1, .slice p1 l1 K1, .int .i64 e1, .bool b2, .slice p2 l2 K2, .int .i64 e2]), (w.heap.size + 1, 29, [.bool b3, .slice p3 l3 K3, .int .i64 e3, .bool b4, .slice p4 l4 K4, .int .i64 e4]), (w.heap.size + 1 + 1, 29, [.bool false, .slice none 0 0, .int .i64 0, .bool false, .slice none 0 0, .int .i64 0]), (w.heap.size + 1 + 1 + 1, 117, [.bool b5, .slice p5 l5 K5, .int .i64 e5, .bool b6, .slice p6 l6 K6, .int .i64 e6, .bool b7, .slice p7 l7 K7, .int .i64 e7, .bool b8, .slice p8 l8 K8, .int .i64 e8]), (g14, 27, [.bool b11, .slice p11 l11 K11, .int .i64 e11]), (g15, 27, [.bool b12, .slice p12 l12 K12, .int .i64 e12])]) rfl
              go_roundw
              case rel => exact .inr (.inr (.inl ⟨rfl, n5, n6, n7, n8, b11, p11, l11, K11, m11, e11, b12, p12, l12, K12, m12, e12, h11, n11, d11, h12, n12, d12, S⟩))
              case measure => simp [intOf]
          ·
            have c3_ := S.c12 3 rfl
            have H := S.hnew 27 [.bool b8, .slice p8 l8 K8, .int .i64 e8]
            replace S := S.al 27 [.bool b8, .slice p8 l8 K8, .int .i64 e8] (wr.heap.size)
            refine iv6 H n5 n6 n7 n8 n9 n10 ?_; clear n5 n6 n7 n8 n9 n10; intro n5 n6 n7 n8 n9 n10
            clear H
            go_upto_region 18 with fail
            clear c3_
            generalize (wr.alloc (.cells #[.bool b8, .slice p8 l8 K8, .int .i64 e8] 27)) = w61 at S n5 n6 n7 n8 n9 n10 ⊢
            have HH := (Hold.drew w61).to32
            refine iw6 HH n5 n6 n7 n8 n9 n10 ?_; clear n5 n6 n7 n8 n9 n10; intro n5 n6 n7 n8 n9 n10
            replace S := S.drew
            refine wp_region_held_drew (S := fun W => W.cell? ⟨wr.heap.size, 0, none⟩ = some (.bool b8) ∧ W.cell? ⟨wr.heap.size, 1, none⟩ = some (.slice p8 l8 K8) ∧ W.cell? ⟨wr.heap.size, 2, none⟩ = some (.int .i64 e8)) (by kernel_rfl) (S.c3 6 rfl) (fun hS => ?_)
            generalize w61.drew = w62 at S n5 n6 n7 n8 n9 n10 HH hS ⊢
            refine tk 1 hS ?_
            refine tk 4 hS ?_
            refine wpAnyH_ready (rs := [0, 3]) (by kernel_rfl) (by simp) (AllReadyH.cons (opOf rfl) (fun KK hKK => ?_) (AllReadyH.cons (opOf rfl) (fun KK hKK => ?_) AllReadyH.nil))
            ·
              have c4_ := S.c3 4 rfl; go_simp; clear c4_
              refine ho hKK hS fun hS => ?_
              clear hKK KK
              refine wpAnyH_ready (rs := [2, 3]) (by kernel_rfl) (by simp) (AllReadyH.cons (opOf rfl) (fun KK hKK => ?_) (AllReadyH.cons (opOf rfl) (fun KK hKK => ?_) AllReadyH.nil))
              ·
                go_simp; clear hS
                refine S.cl (dmin_any ⟨b9, p9, l9, K9, m9, e9, rfl, h9, n9, d9⟩ ⟨b8, p8, l8, K8, m8, e8, rfl, h8, n8, d8⟩ HK.out.1) ?_; clear S; rintro e w63 ⟨_, rfl, b11, p11, l11, K11, m11, e11, rfl, h11, n11, d11⟩ S H
                refine iv6 H n5 n6 n7 n8 n9 n10 ?_; clear n5 n6 n7 n8 n9 n10; intro n5 n6 n7 n8 n9 n10; replace HH := HH.trans H.to32; clear H
                go_wp2_with fail
                refine ho hKK (S.c3 6 rfl) fun hS => ?_
                clear hKK KK
                refine rd 3 fun KK hKK => ?_
                have c5_ := S.c3 5 rfl; go_simp; clear c5_
                refine ho hKK hS fun hS => ?_
                clear hKK KK
                refine rd 5 fun KK hKK => ?_
                go_simp; clear hS
                refine S.cl (dmax_any ⟨b10, p10, l10, K10, m10, e10, rfl, h10, n10, d10⟩ ⟨b8, p8, l8, K8, m8, e8, rfl, h8, n8, d8⟩ HK.out.1) ?_; clear S; rintro e w64 ⟨_, rfl, b12, p12, l12, K12, m12, e12, rfl, h12, n12, d12⟩ S H
                refine iv7 H n5 n6 n7 n8 n9 n10 n11 ?_; clear n5 n6 n7 n8 n9 n10 n11; intro n5 n6 n7 n8 n9 n10 n11; replace HH := HH.trans H.to32; clear H
                go_wp2_with fail
                refine ho hKK (S.c3 6 rfl) fun hS => ?_
                clear hKK KK
                refine rd 6 fun KK hKK => ?_
                obtain ⟨c0, c1, c2⟩ := S.c3 4 rfl; obtain ⟨f0, f1, f2⟩ := S.f3 4 rfl
                go_simp; clear hS c0 f0 c1 f1 c2 f2
                have HP := S.put3 4 (.bool b11) (.slice p11 l11 K11) (.int .i64 e11) rfl rfl; have H := HP.2; replace S := HP.1; clear HP
                refine iw8 H n5 n6 n7 n8 n9 n10 n11 n12 ?_; clear n5 n6 n7 n8 n9 n10 n11 n12; intro n5 n6 n7 n8 n9 n10 n11 n12; replace HH := HH.trans H; clear H
                refine ho hKK (S.c3 6 rfl) fun hS => ?_
                generalize (((w64.setCell ⟨g14, 0, none⟩ (.bool b11)).setCell ⟨g14, 1, none⟩ (.slice p11 l11 K11)).setCell ⟨g14, 2, none⟩ (.int .i64 e11)) = w65 at S n5 n6 n7 n8 n9 n10 n11 n12 HH hS ⊢
                clear hKK KK
                refine rd 7 fun KK hKK => ?_
                obtain ⟨c0, c1, c2⟩ := S.c3 5 rfl; obtain ⟨f0, f1, f2⟩ := S.f3 5 rfl
                go_simp; clear hS c0 f0 c1 f1 c2 f2
                have HP := S.put3 5 (.bool b12) (.slice p12 l12 K12) (.int .i64 e12) rfl rfl; have H := HP.2; replace S := HP.1; clear HP
                refine iw8 H n5 n6 n7 n8 n9 n10 n11 n12 ?_; clear n5 n6 n7 n8 n9 n10 n11 n12; intro n5 n6 n7 n8 n9 n10 n11 n12; replace HH := HH.trans H; clear H
                refine ho hKK (S.c3 6 rfl) fun hS => ?_
                generalize (((w65.setCell ⟨g15, 0, none⟩ (.bool b12)).setCell ⟨g15, 1, none⟩ (.slice p12 l12 K12)).setCell ⟨g15, 2, none⟩ (.int .i64 e12)) = w66 at S n5 n6 n7 n8 n9 n10 n11 n12 HH hS ⊢
                clear hKK KK
                refine wpAnyH_done (by kernel_rfl) ?_ _
                clear hS HH; go_wp2_with fail
                replace S := S.take 6 (L := [(w.heap.size, 29, [.bool b1, .slice p1 l1 K1, .int .i64 e1, .bool b2, .slice p2 l2 K2, .int .i64 e2]), (w.heap.size + 1, 29, [.bool b3, .slice p3 l3 K3, .int .i64 e3, .bool b4, .slice p4 l4 K4, .int .i64 e4]), (w.heap.size + 1 + 1, 29, [.bool false, .slice none 0 0, .int .i64 0, .bool false, .slice none 0 0, .int .i64 0]), (w.heap.size + 1 + 1 + 1, 117, [.bool b5, .slice p5 l5 K5, .int .i64 e5, .bool b6, .slice p6 l6 K6, .int .i64 e6, .bool b7, .slice p7 l7 K7, .int .i64 e7, .bool b8, .slice p8 l8 K8, .int .i64 e8]), (g14, 27, [.bool b11, .slice p11 l11 K11, .int .i64 e11]), (g15, 27, [.bool b12, .slice p12 l12 K12, .int .i64 e12])]) rfl
                go_roundw
                case rel => exact .inr (.inr (.inr ⟨rfl, n5, n6, n7, n8, b11, p11, l11, K11, m11, e11, b12, p12, l12, K12, m12, e12, h11, n11, d11, h12, n12, d12, S⟩))
                case measure => simp [intOf]
              ·
                have c5_ := S.c3 5 rfl; go_simp; clear c5_
                refine ho hKK hS fun hS => ?_
                clear hKK KK
                refine rd 2 fun KK hKK => ?_
                go_simp; clear hS
                refine S.cl (dmin_any ⟨b9, p9, l9, K9, m9, e9, rfl, h9, n9, d9⟩ ⟨b8, p8, l8, K8, m8, e8, rfl, h8, n8, d8⟩ HK.out.1) ?_; clear S; rintro e w67 ⟨_, rfl, b11, p11, l11, K11, m11, e11, rfl, h11, n11, d11⟩ S H
                refine iv6 H n5 n6 n7 n8 n9 n10 ?_; clear n5 n6 n7 n8 n9 n10; intro n5 n6 n7 n8 n9 n10; replace HH := HH.trans H.to32; clear H
                go_wp2_with fail
                refine ho hKK (S.c3 6 rfl) fun hS => ?_
                clear hKK KK
                refine rd 5 fun KK hKK => ?_
                go_simp; clear hS
                refine S.cl (dmax_any ⟨b10, p10, l10, K10, m10, e10, rfl, h10, n10, d10⟩ ⟨b8, p8, l8, K8, m8, e8, rfl, h8, n8, d8⟩ HK.out.1) ?_; clear S; rintro e w68 ⟨_, rfl, b12, p12, l12, K12, m12, e12, rfl, h12, n12, d12⟩ S H
                refine iv7 H n5 n6 n7 n8 n9 n10 n11 ?_; clear n5 n6 n7 n8 n9 n10 n11; intro n5 n6 n7 n8 n9 n10 n11; replace HH := HH.trans H.to32; clear H
                go_wp2_with fail
                refine ho hKK (S.c3 6 rfl) fun hS => ?_
                clear hKK KK
                refine rd 6 fun KK hKK => ?_
                obtain ⟨c0, c1, c2⟩ := S.c3 4 rfl; obtain ⟨f0, f1, f2⟩ := S.f3 4 rfl
                go_simp; clear hS c0 f0 c1 f1 c2 f2
                have HP := S.put3 4 (.bool b11) (.slice p11 l11 K11) (.int .i64 e11) rfl rfl; have H := HP.2; replace S := HP.1; clear HP
                refine iw8 H n5 n6 n7 n8 n9 n10 n11 n12 ?_; clear n5 n6 n7 n8 n9 n10 n11 n12; intro n5 n6 n7 n8 n9 n10 n11 n12; replace HH := HH.trans H; clear H
                refine ho hKK (S.c3 6 rfl) fun hS => ?_
                generalize (((w68.setCell ⟨g14, 0, none⟩ (.bool b11)).setCell ⟨g14, 1, none⟩ (.slice p11 l11 K11)).setCell ⟨g14, 2, none⟩ (.int .i64 e11)) = w69 at S n5 n6 n7 n8 n9 n10 n11 n12 HH hS ⊢
                clear hKK KK
                refine rd 7 fun KK hKK => ?_
                obtain ⟨c0, c1, c2⟩ := S.c3 5 rfl; obtain ⟨f0, f1, f2⟩ := S.f3 5 rfl
                go_simp; clear hS c0 f0 c1 f1 c2 f2
                have HP := S.put3 5 (.bool b12) (.slice p12 l12 K12) (.int .i64 e12) rfl rfl; have H := HP.2; replace S := HP.1; clear HP
                refine iw8 H n5 n6 n7 n8 n9 n10 n11 n12 ?_; clear n5 n6 n7 n8 n9 n10 n11 n12; intro n5 n6 n7 n8 n9 n10 n11 n12; replace HH := HH.trans H; clear H
                refine ho hKK (S.c3 6 rfl) fun hS => ?_
                generalize (((w69.setCell ⟨g15, 0, none⟩ (.bool b12)).setCell ⟨g15, 1, none⟩ (.slice p12 l12 K12)).setCell ⟨g15, 2, none⟩ (.int .i64 e12)) = w70 at S n5 n6 n7 n8 n9 n10 n11 n12 HH hS ⊢
                clear hKK KK
                refine wpAnyH_done (by kernel_rfl) ?_ _
                clear hS HH; go_wp2_with fail
                replace S := S.take 6 (L := [(w.heap.size, 29, [.bool b1, .slice p1 l1 K1, .int .i64 e1, .bool b2, .slice p2 l2 K2, .int .i64 e2]), (w.heap.size + 1, 29, [.bool b3, .slice p3 l3 K3, .int .i64 e3, .bool b4, .slice p4 l4 K4, .int .i64 e4]), (w.heap.size + 1 + 1, 29, [.bool false, .slice none 0 0, .int .i64 0, .bool false, .slice none 0 0, .int .i64 0]), (w.heap.size + 1 + 1 + 1, 117, [.bool b5, .slice p5 l5 K5, .int .i64 e5, .bool b6, .slice p6 l6 K6, .int .i64 e6, .bool b7, .slice p7 l7 K7, .int .i64 e7, .bool b8, .slice p8 l8 K8, .int .i64 e8]), (g14, 27, [.bool b11, .slice p11 l11 K11, .int .i64 e11]), (g15, 27, [.bool b12, .slice p12 l12 K12, .int .i64 e12])]) rfl
                go_roundw
                case rel => exact .inr (.inr (.inr ⟨rfl, n5, n6, n7, n8, b11, p11, l11, K11, m11, e11, b12, p12, l12, K12, m12, e12, h11, n11, d11, h12, n12, d12, S⟩))
                case measure => simp [intOf]
            ·
              have c5_ := S.c3 5 rfl; go_simp; clear c5_
              refine ho hKK hS fun hS => ?_
              clear hKK KK
              refine rd 0 fun KK hKK => ?_
              have c4_ := S.c3 4 rfl; go_simp; clear c4_
              refine ho hKK hS fun hS => ?_
              clear hKK KK
              refine rd 2 fun KK hKK => ?_
              go_simp; clear hS
              refine S.cl (dmin_any ⟨b9, p9, l9, K9, m9, e9, rfl, h9, n9, d9⟩ ⟨b8, p8, l8, K8, m8, e8, rfl, h8, n8, d8⟩ HK.out.1) ?_; clear S; rintro e w71 ⟨_, rfl, b11, p11, l11, K11, m11, e11, rfl, h11, n11, d11⟩ S H
              refine iv6 H n5 n6 n7 n8 n9 n10 ?_; clear n5 n6 n7 n8 n9 n10; intro n5 n6 n7 n8 n9 n10; replace HH := HH.trans H.to32; clear H
              go_wp2_with fail
              refine ho hKK (S.c3 6 rfl) fun hS => ?_
              clear hKK KK
              refine rd 5 fun KK hKK => ?_
              go_simp; clear hS
              refine S.cl (dmax_any ⟨b10, p10, l10, K10, m10, e10, rfl, h10, n10, d10⟩ ⟨b8, p8, l8, K8, m8, e8, rfl, h8, n8, d8⟩ HK.out.1) ?_; clear S; rintro e w72 ⟨_, rfl, b12, p12, l12, K12, m12, e12, rfl, h12, n12, d12⟩ S H
              refine iv7 H n5 n6 n7 n8 n9 n10 n11 ?_; clear n5 n6 n7 n8 n9 n10 n11; intro n5 n6 n7 n8 n9 n10 n11; replace HH := HH.trans H.to32; clear H
              go_wp2_with fail
              refine ho hKK (S.c3 6 rfl) fun hS => ?_
              clear hKK KK
              refine rd 6 fun KK hKK => ?_
              obtain ⟨c0, c1, c2⟩ := S.c3 4 rfl; obtain ⟨f0, f1, f2⟩ := S.f3 4 rfl
              go_simp; clear hS c0 f0 c1 f1 c2 f2
              have HP := S.put3 4 (.bool b11) (.slice p11 l11 K11) (.int .i64 e11) rfl rfl; have H := HP.2; replace S := HP.1; clear HP
              refine iw8 H n5 n6 n7 n8 n9 n10 n11 n12 ?_; clear n5 n6 n7 n8 n9 n10 n11 n12; intro n5 n6 n7 n8 n9 n10 n11 n12; replace HH := HH.trans H; clear H
              refine ho hKK (S.c3 6 rfl) fun hS => ?_
              generalize (((w72.setCell ⟨g14, 0, none⟩ (.bool b11)).setCell ⟨g14, 1, none⟩ (.slice p11 l11 K11)).setCell ⟨g14, 2, none⟩ (.int .i64 e11)) = w73 at S n5 n6 n7 n8 n9 n10 n11 n12 HH hS ⊢
              clear hKK KK
              refine rd 7 fun KK hKK => ?_
              obtain ⟨c0, c1, c2⟩ := S.c3 5 rfl; obtain ⟨f0, f1, f2⟩ := S.f3 5 rfl
              go_simp; clear hS c0 f0 c1 f1 c2 f2
              have HP := S.put3 5 (.bool b12) (.slice p12 l12 K12) (.int .i64 e12) rfl rfl; have H := HP.2; replace S := HP.1; clear HP
              refine iw8 H n5 n6 n7 n8 n9 n10 n11 n12 ?_; clear n5 n6 n7 n8 n9 n10 n11 n12; intro n5 n6 n7 n8 n9 n10 n11 n12; replace HH := HH.trans H; clear H
              refine ho hKK (S.c3 6 rfl) fun hS => ?_
              generalize (((w73.setCell ⟨g15, 0, none⟩ (.bool b12)).setCell ⟨g15, 1, none⟩ (.slice p12 l12 K12)).setCell ⟨g15, 2, none⟩ (.int .i64 e12)) = w74 at S n5 n6 n7 n8 n9 n10 n11 n12 HH hS ⊢
              clear hKK KK
              refine wpAnyH_done (by kernel_rfl) ?_ _
              clear hS HH; go_wp2_with fail
              replace S := S.take 6 (L := [(w.heap.size, 29, [.bool b1, .slice p1 l1 K1, .int .i64 e1, .bool b2, .slice p2 l2 K2, .int .i64 e2]), (w.heap.size + 1, 29, [.bool b3, .slice p3 l3 K3, .int .i64 e3, .bool b4, .slice p4 l4 K4, .int .i64 e4]), (w.heap.size + 1 + 1, 29, [.bool false, .slice none 0 0, .int .i64 0, .bool false, .slice none 0 0, .int .i64 0]), (w.heap.size + 1 + 1 + 1, 117, [.bool b5, .slice p5 l5 K5, .int .i64 e5, .bool b6, .slice p6 l6 K6, .int .i64 e6, .bool b7, .slice p7 l7 K7, .int .i64 e7, .bool b8, .slice p8 l8 K8, .int .i64 e8]), (g14, 27, [.bool b11, .slice p11 l11 K11, .int .i64 e11]), (g15, 27, [.bool b12, .slice p12 l12 K12, .int .i64 e12])]) rfl
              go_roundw
              case rel => exact .inr (.inr (.inr ⟨rfl, n5, n6, n7, n8, b11, p11, l11, K11, m11, e11, b12, p12, l12, K12, m12, e12, h11, n11, d11, h12, n12, d12, S⟩))
              case measure => simp [intOf]
          ·
            have c4_ := S.c3 4 rfl; have c5_ := S.c3 5 rfl; go_wp2_with fail; clear c4_ c5_
            refine S.cl (sround_any (HK.out.2.2.2.1.below S.below) ⟨b9, p9, l9, K9, m9, e9, b10, p10, l10, K10, m10, e10, rfl, h9, n9, d9, h10, n10, d10⟩ HK.out.2.2.2.2 n HK.out.2.1 HK.out.2.2.1) ?_; clear S; rintro e w61 ⟨_, rfl, b13, p13, l13, K13, m13, e13, b14, p14, l14, K14, m14, e14, rfl, h13, n13, d13, h14, n14, d14⟩ S H
            replace n9 := n9.hold H; replace n10 := n10.hold H
            clear H; have c4_ := S.c3 4 rfl; have c5_ := S.c3 5 rfl; clear c4_ c5_; have c2_ := S.c6 2 rfl
            obtain ⟨f2_0, f2_1, f2_2, f2_3, f2_4, f2_5⟩ := S.f6 2 rfl
            have HP := S.put6 2 (.bool b13) (.slice p13 l13 K13) (.int .i64 e13) (.bool b14) (.slice p14 l14 K14) (.int .i64 e14) rfl rfl; have H := HP.2; replace S := HP.1; clear HP
            refine iw4 H n9 n10 n13 n14 ?_; clear n9 n10 n13 n14; intro n9 n10 n13 n14
            clear H; go_wp2_with fail; obtain ⟨d2_0, d2_1, d2_2, d2_3, d2_4, d2_5⟩ := S.c6 2 rfl
            exact bodyPost_ret (v := .tuple #[.agg #[.bool b13, .slice p13 l13 K13, .int .i64 e13, .bool b14, .slice p14 l14 K14, .int .i64 e14], .int .i64 0]) (by simp [results, Tryz.f18, go_sem, d2_0, d2_1, d2_2, d2_3, d2_4, d2_5]) rfl (⟨⟨_, rfl, b13, p13, l13, K13, m13, e13, b14, p14, l14, K14, m14, e14, rfl, h13, n13, d13, h14, n14, d14⟩, S.below⟩)
set_option maxRecDepth 100000 in
set_option maxHeartbeats 4000000 in
theorem rof_any (n d : Int) (w : World) (hn0 : -9223372036854775808 ≤ n) (hn1 : n ≤ 9223372036854775807) (hd0 : -9223372036854775808 ≤ d) (hd1 : d ≤ 9223372036854775807) (h0 : d ≠ 0) (q : Rat) (hq : q = Rat.divInt n d) :
    Calls Tryz.prog 60 #[.int .i64 n, .int .i64 d] w fun e w' => (∃ u, e = .returned u ∧ IsRat w' u q) ∧ Below w.heap.size w w' := by
  have HD := Lib.hid (And.intro hn0 (And.intro hn1 (And.intro hd0 (And.intro hd1 (And.intro h0 hq)))))
  have HB := Lib.hid (And.intro (show n.natAbs < maxN from lt_maxN (by omega)) (show d.natAbs < maxN from lt_maxN (by omega)))
  clear hn0 hn1 hd0 hd1 h0 hq
  have S := (St.start w).alloc 34 [.bool false, .slice none 0 0, .slice none 0 0] (w.heap.size)
  try simp only [List.nil_append] at S
  have c0_ := S.c3 0 rfl
  go_enter Tryz.func60, Tryz.ntmps60
  go_wp2_with fail; clear c0_
  refine S.cl (wof_any n _ HD.out.1 HD.out.2.1) ?_; clear S; rintro e w1 ⟨_, rfl, pn, ln, Kn, rfl, nn⟩ S H
  clear H; have c0_ := S.c3 0 rfl; go_wp2_with fail; clear c0_
  refine S.cl (wof_any d _ HD.out.2.2.1 HD.out.2.2.2.1) ?_; clear S; rintro e w2 ⟨_, rfl, pd, ld, Kd, rfl, nd⟩ S H
  replace nn := nn.hold H; clear H; have c0_ := S.c3 0 rfl; go_wp2_with fail; clear c0_
  refine S.cl (rmake_any ⟨_, _, _, rfl, nn⟩ ⟨_, _, _, rfl, nd⟩ HB.out.1 HB.out.2 HD.out.2.2.2.2.1 q HD.out.2.2.2.2.2) ?_; clear S; rintro e w3 ⟨_, rfl, b, p, l, K, q', j, J, rfl, hb, n1, d1⟩ S H
  replace nn := nn.hold H; replace nd := nd.hold H
  clear H; have c0_ := S.c3 0 rfl
  have H := S.hnew 34 [.bool b, .slice p l K, .slice q' j J]
  replace S := S.al 34 [.bool b, .slice p l K, .slice q' j J] (w3.heap.size)
  refine iv4 H nn nd n1 d1 ?_; clear nn nd n1 d1; intro nn nd n1 d1
  clear H; clear c0_; have c0_ := S.c3 0 rfl; have c1_ := S.c3 1 rfl
  obtain ⟨f0_0, f0_1, f0_2⟩ := S.f3 0 rfl
  have HP := S.putq 0 (.bool b) (.slice p l K) (.slice q' j J) rfl rfl; have H := HP.2; replace S := HP.1; clear HP
  refine iv4 H nn nd n1 d1 ?_; clear nn nd n1 d1; intro nn nd n1 d1
  clear H; go_wp2_with fail; obtain ⟨d0_0, d0_1, d0_2⟩ := S.c3 0 rfl
  exact bodyPost_ret (v := .agg #[.bool b, .slice p l K, .slice q' j J]) (by simp [results, Tryz.f60, go_sem, d0_0, d0_1, d0_2]) rfl (⟨⟨_, rfl, b, p, l, K, q', j, J, rfl, hb, n1, d1⟩, S.below⟩)
set_option maxRecDepth 100000 in
set_option maxHeartbeats 4000000 in
theorem smeet_any {va vb : Value} {x y u v : Rat} {w : World} {L H : Nat} (ha : IsSp w va x y L H) (hb : IsSp w vb u v L H) (hk : H + L ≤ 16384) (hr : ¬ min2 y v < max2 x u) :
    Calls Tryz.prog 33 #[va, vb] w fun e w' => (∃ z, e = .returned (.tuple #[z, .int .i64 0]) ∧ IsSp w' z (max2 x u) (min2 y v) L H) ∧ Below w.heap.size w w' := by
  obtain ⟨b1, p1, l1, K1, m1, e1, b2, p2, l2, K2, m2, e2, rfl, h1, n1, d1, h2, n2, d2⟩ := ha
  obtain ⟨b3, p3, l3, K3, m3, e3, b4, p4, l4, K4, m4, e4, rfl, h3, n3, d3, h4, n4, d4⟩ := hb
  have HK := Lib.hid hk
  have hl := Lib.hid (decide_eq_false hr)
  clear hk hr
  have S := (((St.start w).alloc 29 [.bool b1, .slice p1 l1 K1, .int .i64 e1, .bool b2, .slice p2 l2 K2, .int .i64 e2] (w.heap.size)).alloc 29 [.bool b3, .slice p3 l3 K3, .int .i64 e3, .bool b4, .slice p4 l4 K4, .int .i64 e4] (w.heap.size + 1)).alloc 29 [.bool false, .slice none 0 0, .int .i64 0, .bool false, .slice none 0 0, .int .i64 0] (w.heap.size + 1 + 1)
  try simp only [List.cons_append, List.nil_append] at S
  refine iv4 S.hold n1 n2 n3 n4 ?_; clear n1 n2 n3 n4; intro n1 n2 n3 n4
  have c0_ := S.c6 0 rfl; have c1_ := S.c6 1 rfl; have c2_ := S.c6 2 rfl
  go_enter Tryz.func33, Tryz.ntmps33
  go_upto_region 1 with fail
  clear c0_ c1_ c2_
  generalize (((w.alloc (.cells #[.bool b1, .slice p1 l1 K1, .int .i64 e1, .bool b2, .slice p2 l2 K2, .int .i64 e2] 29)).alloc (.cells #[.bool b3, .slice p3 l3 K3, .int .i64 e3, .bool b4, .slice p4 l4 K4, .int .i64 e4] 29)).alloc (.cells #[.bool false, .slice none 0 0, .int .i64 0, .bool false, .slice none 0 0, .int .i64 0] 29)) = w1 at S n1 n2 n3 n4 ⊢
  go_cut [6, 7] (fun s6 s7 wx => ∃ g6 g7 b5 p5 l5 K5 m5 e5 b6 p6 l6 K6 m6 e6, s6 = .pointer (some ⟨g6, 0, none⟩) ∧ s7 = .pointer (some ⟨g7, 0, none⟩) ∧ Su w wx [(w.heap.size, 29, [.bool b1, .slice p1 l1 K1, .int .i64 e1, .bool b2, .slice p2 l2 K2, .int .i64 e2]), (w.heap.size + 1, 29, [.bool b3, .slice p3 l3 K3, .int .i64 e3, .bool b4, .slice p4 l4 K4, .int .i64 e4]), (w.heap.size + 1 + 1, 29, [.bool false, .slice none 0 0, .int .i64 0, .bool false, .slice none 0 0, .int .i64 0]), (g6, 27, [.bool b5, .slice p5 l5 K5, .int .i64 e5]), (g7, 27, [.bool b6, .slice p6 l6 K6, .int .i64 e6])] ∧ Hid (negB m5 = b5) ∧ IsNat wx (.slice p5 l5 K5) m5.natAbs ∧ Hid (DyF m5 e5 (max2 x u) L H) ∧ Hid (negB m6 = b6) ∧ IsNat wx (.slice p6 l6 K6) m6.natAbs ∧ Hid (DyF m6 e6 (min2 y v) L H) ∧ Hold32 w1 wx)
  case first =>
    have HH := (Hold.drew w1).to32
    refine iw4 HH n1 n2 n3 n4 ?_; clear n1 n2 n3 n4; intro n1 n2 n3 n4
    replace S := S.drew
    refine wp_region_held_drew (S := fun W => W.cell? ⟨w.heap.size, 0, none⟩ = some (.bool b1) ∧ W.cell? ⟨w.heap.size, 1, none⟩ = some (.slice p1 l1 K1) ∧ W.cell? ⟨w.heap.size, 2, none⟩ = some (.int .i64 e1) ∧ W.cell? ⟨w.heap.size, 3, none⟩ = some (.bool b2) ∧ W.cell? ⟨w.heap.size, 4, none⟩ = some (.slice p2 l2 K2) ∧ W.cell? ⟨w.heap.size, 5, none⟩ = some (.int .i64 e2) ∧ W.cell? ⟨w.heap.size + 1, 0, none⟩ = some (.bool b3) ∧ W.cell? ⟨w.heap.size + 1, 1, none⟩ = some (.slice p3 l3 K3) ∧ W.cell? ⟨w.heap.size + 1, 2, none⟩ = some (.int .i64 e3) ∧ W.cell? ⟨w.heap.size + 1, 3, none⟩ = some (.bool b4) ∧ W.cell? ⟨w.heap.size + 1, 4, none⟩ = some (.slice p4 l4 K4) ∧ W.cell? ⟨w.heap.size + 1, 5, none⟩ = some (.int .i64 e4)) (by kernel_rfl) (con6 (S.c6 0 rfl) (S.c6 1 rfl)) (fun hS => ?_)
    generalize w1.drew = w2 at S n1 n2 n3 n4 HH hS ⊢
    refine tk 0 hS ?_
    refine tk 1 hS ?_
    refine tk 2 hS ?_
    refine tk 3 hS ?_
    refine tk 5 hS ?_
    refine tk 6 hS ?_
    refine tk 7 hS ?_
    refine tk 8 hS ?_
    refine wpAnyH_ready (rs := [4, 10, 11]) (by kernel_rfl) (by simp) (AllReadyH.cons (opOf rfl) (fun KK hKK => ?_) (AllReadyH.cons (opOf rfl) (fun KK hKK => ?_) (AllReadyH.cons (opOf rfl) (fun KK hKK => ?_) AllReadyH.nil)))
    ·
      go_simp; clear hS
      refine S.cl (dmax_any ⟨b1, p1, l1, K1, m1, e1, rfl, h1, n1, d1⟩ ⟨b3, p3, l3, K3, m3, e3, rfl, h3, n3, d3⟩ HK.out) ?_; clear S; rintro e w3 ⟨_, rfl, b5, p5, l5, K5, m5, e5, rfl, h5, n5, d5⟩ S H
      refine iv4 H n1 n2 n3 n4 ?_; clear n1 n2 n3 n4; intro n1 n2 n3 n4; replace HH := HH.trans H.to32; clear H
      go_wp2_with fail
      refine ho hKK (con6 (S.c6 0 rfl) (S.c6 1 rfl)) fun hS => ?_
      clear hKK KK
      refine wpAnyH_ready (rs := [9, 10, 11]) (by kernel_rfl) (by simp) (AllReadyH.cons (opOf rfl) (fun KK hKK => ?_) (AllReadyH.cons (opOf rfl) (fun KK hKK => ?_) (AllReadyH.cons (opOf rfl) (fun KK hKK => ?_) AllReadyH.nil)))
      ·
        go_simp; clear hS
        refine S.cl (dmin_any ⟨b2, p2, l2, K2, m2, e2, rfl, h2, n2, d2⟩ ⟨b4, p4, l4, K4, m4, e4, rfl, h4, n4, d4⟩ HK.out) ?_; clear S; rintro e w4 ⟨_, rfl, b6, p6, l6, K6, m6, e6, rfl, h6, n6, d6⟩ S H
        refine iv5 H n1 n2 n3 n4 n5 ?_; clear n1 n2 n3 n4 n5; intro n1 n2 n3 n4 n5; replace HH := HH.trans H.to32; clear H
        go_wp2_with fail
        refine ho hKK (con6 (S.c6 0 rfl) (S.c6 1 rfl)) fun hS => ?_
        clear hKK KK
        refine wpAnyH_ready (rs := [10, 11]) (by kernel_rfl) (by simp) (AllReadyH.cons (opOf rfl) (fun KK hKK => ?_) (AllReadyH.cons (opOf rfl) (fun KK hKK => ?_) AllReadyH.nil))
        ·
          go_simp; clear hS
          have H := S.hnew 27 [.bool false, .slice none 0 0, .int .i64 0]
          replace S := S.al 27 [.bool false, .slice none 0 0, .int .i64 0] (w4.heap.size)
          refine iv6 H n1 n2 n3 n4 n5 n6 ?_; clear n1 n2 n3 n4 n5 n6; intro n1 n2 n3 n4 n5 n6; replace HH := HH.trans H.to32; clear H
          refine ho hKK (con6 (S.c6 0 rfl) (S.c6 1 rfl)) fun hS => ?_
          generalize (w4.alloc (.cells #[.bool false, .slice none 0 0, .int .i64 0] 27)) = w5 at S n1 n2 n3 n4 n5 n6 HH hS ⊢
          clear hKK KK
          refine rd 11 fun KK hKK => ?_
          go_simp; clear hS
          have H := S.hnew 27 [.bool false, .slice none 0 0, .int .i64 0]
          replace S := S.al 27 [.bool false, .slice none 0 0, .int .i64 0] (w5.heap.size)
          refine iv6 H n1 n2 n3 n4 n5 n6 ?_; clear n1 n2 n3 n4 n5 n6; intro n1 n2 n3 n4 n5 n6; replace HH := HH.trans H.to32; clear H
          refine ho hKK (con6 (S.c6 0 rfl) (S.c6 1 rfl)) fun hS => ?_
          generalize (w5.alloc (.cells #[.bool false, .slice none 0 0, .int .i64 0] 27)) = w6 at S n1 n2 n3 n4 n5 n6 HH hS ⊢
          clear hKK KK
          refine rd 12 fun KK hKK => ?_
          obtain ⟨c0, c1, c2⟩ := S.c3 3 rfl; obtain ⟨f0, f1, f2⟩ := S.f3 3 rfl
          go_simp; clear hS c0 f0 c1 f1 c2 f2
          have HP := S.put3 3 (.bool b5) (.slice p5 l5 K5) (.int .i64 e5) rfl rfl; have H := HP.2; replace S := HP.1; clear HP
          refine iw7 H n1 n2 n3 n4 n5 n6 HH ?_; clear n1 n2 n3 n4 n5 n6 HH H; intro n1 n2 n3 n4 n5 n6 HH
          refine ho hKK (con6 (S.c6 0 rfl) (S.c6 1 rfl)) fun hS => ?_
          generalize (((w6.setCell ⟨w4.heap.size, 0, none⟩ (.bool b5)).setCell ⟨w4.heap.size, 1, none⟩ (.slice p5 l5 K5)).setCell ⟨w4.heap.size, 2, none⟩ (.int .i64 e5)) = w7 at S n1 n2 n3 n4 n5 n6 HH hS ⊢
          clear hKK KK
          refine rd 13 fun KK hKK => ?_
          obtain ⟨c0, c1, c2⟩ := S.c3 4 rfl; obtain ⟨f0, f1, f2⟩ := S.f3 4 rfl
          go_simp; clear hS c0 f0 c1 f1 c2 f2
          have HP := S.put3 4 (.bool b6) (.slice p6 l6 K6) (.int .i64 e6) rfl rfl; have H := HP.2; replace S := HP.1; clear HP
          refine iw7 H n1 n2 n3 n4 n5 n6 HH ?_; clear n1 n2 n3 n4 n5 n6 HH H; intro n1 n2 n3 n4 n5 n6 HH
          refine ho hKK (con6 (S.c6 0 rfl) (S.c6 1 rfl)) fun hS => ?_
          generalize (((w7.setCell ⟨w5.heap.size, 0, none⟩ (.bool b6)).setCell ⟨w5.heap.size, 1, none⟩ (.slice p6 l6 K6)).setCell ⟨w5.heap.size, 2, none⟩ (.int .i64 e6)) = w8 at S n1 n2 n3 n4 n5 n6 HH hS ⊢
          clear hKK KK
          refine wpAnyH_done (by kernel_rfl) ?_ _
          go_wp2_with fail
          go_meet
          case rel => exact ⟨w4.heap.size, w5.heap.size, b5, p5, l5, K5, m5, e5, b6, p6, l6, K6, m6, e6, rfl, rfl, Su.of S [0, 1, 2, 3, 4] rfl, h5, n5, d5, h6, n6, d6, HH⟩
        ·
          go_simp; clear hS
          have H := S.hnew 27 [.bool false, .slice none 0 0, .int .i64 0]
          replace S := S.al 27 [.bool false, .slice none 0 0, .int .i64 0] (w4.heap.size)
          refine iv6 H n1 n2 n3 n4 n5 n6 ?_; clear n1 n2 n3 n4 n5 n6; intro n1 n2 n3 n4 n5 n6; replace HH := HH.trans H.to32; clear H
          refine ho hKK (con6 (S.c6 0 rfl) (S.c6 1 rfl)) fun hS => ?_
          generalize (w4.alloc (.cells #[.bool false, .slice none 0 0, .int .i64 0] 27)) = w9 at S n1 n2 n3 n4 n5 n6 HH hS ⊢
          clear hKK KK
          refine rd 10 fun KK hKK => ?_
          go_simp; clear hS
          have H := S.hnew 27 [.bool false, .slice none 0 0, .int .i64 0]
          replace S := S.al 27 [.bool false, .slice none 0 0, .int .i64 0] (w9.heap.size)
          refine iv6 H n1 n2 n3 n4 n5 n6 ?_; clear n1 n2 n3 n4 n5 n6; intro n1 n2 n3 n4 n5 n6; replace HH := HH.trans H.to32; clear H
          refine ho hKK (con6 (S.c6 0 rfl) (S.c6 1 rfl)) fun hS => ?_
          generalize (w9.alloc (.cells #[.bool false, .slice none 0 0, .int .i64 0] 27)) = w10 at S n1 n2 n3 n4 n5 n6 HH hS ⊢
          clear hKK KK
          refine rd 12 fun KK hKK => ?_
          obtain ⟨c0, c1, c2⟩ := S.c3 4 rfl; obtain ⟨f0, f1, f2⟩ := S.f3 4 rfl
          go_simp; clear hS c0 f0 c1 f1 c2 f2
          have HP := S.put3 4 (.bool b5) (.slice p5 l5 K5) (.int .i64 e5) rfl rfl; have H := HP.2; replace S := HP.1; clear HP
          refine iw7 H n1 n2 n3 n4 n5 n6 HH ?_; clear n1 n2 n3 n4 n5 n6 HH H; intro n1 n2 n3 n4 n5 n6 HH
          refine ho hKK (con6 (S.c6 0 rfl) (S.c6 1 rfl)) fun hS => ?_
          generalize (((w10.setCell ⟨w9.heap.size, 0, none⟩ (.bool b5)).setCell ⟨w9.heap.size, 1, none⟩ (.slice p5 l5 K5)).setCell ⟨w9.heap.size, 2, none⟩ (.int .i64 e5)) = w11 at S n1 n2 n3 n4 n5 n6 HH hS ⊢
          clear hKK KK
          refine rd 13 fun KK hKK => ?_
          obtain ⟨c0, c1, c2⟩ := S.c3 3 rfl; obtain ⟨f0, f1, f2⟩ := S.f3 3 rfl
          go_simp; clear hS c0 f0 c1 f1 c2 f2
          have HP := S.put3 3 (.bool b6) (.slice p6 l6 K6) (.int .i64 e6) rfl rfl; have H := HP.2; replace S := HP.1; clear HP
          refine iw7 H n1 n2 n3 n4 n5 n6 HH ?_; clear n1 n2 n3 n4 n5 n6 HH H; intro n1 n2 n3 n4 n5 n6 HH
          refine ho hKK (con6 (S.c6 0 rfl) (S.c6 1 rfl)) fun hS => ?_
          generalize (((w11.setCell ⟨w4.heap.size, 0, none⟩ (.bool b6)).setCell ⟨w4.heap.size, 1, none⟩ (.slice p6 l6 K6)).setCell ⟨w4.heap.size, 2, none⟩ (.int .i64 e6)) = w12 at S n1 n2 n3 n4 n5 n6 HH hS ⊢
          clear hKK KK
          refine wpAnyH_done (by kernel_rfl) ?_ _
          go_wp2_with fail
          go_meet
          case rel => exact ⟨w9.heap.size, w4.heap.size, b5, p5, l5, K5, m5, e5, b6, p6, l6, K6, m6, e6, rfl, rfl, Su.of S [0, 1, 2, 4, 3] rfl, h5, n5, d5, h6, n6, d6, HH⟩
      ·
        go_simp; clear hS
        have H := S.hnew 27 [.bool false, .slice none 0 0, .int .i64 0]
        replace S := S.al 27 [.bool false, .slice none 0 0, .int .i64 0] (w3.heap.size)
        refine iv5 H n1 n2 n3 n4 n5 ?_; clear n1 n2 n3 n4 n5; intro n1 n2 n3 n4 n5; replace HH := HH.trans H.to32; clear H
        refine ho hKK (con6 (S.c6 0 rfl) (S.c6 1 rfl)) fun hS => ?_
        generalize (w3.alloc (.cells #[.bool false, .slice none 0 0, .int .i64 0] 27)) = w13 at S n1 n2 n3 n4 n5 HH hS ⊢
        clear hKK KK
        refine wpAnyH_ready (rs := [9, 11]) (by kernel_rfl) (by simp) (AllReadyH.cons (opOf rfl) (fun KK hKK => ?_) (AllReadyH.cons (opOf rfl) (fun KK hKK => ?_) AllReadyH.nil))
        ·
          go_simp; clear hS
          refine S.cl (dmin_any ⟨b2, p2, l2, K2, m2, e2, rfl, h2, n2, d2⟩ ⟨b4, p4, l4, K4, m4, e4, rfl, h4, n4, d4⟩ HK.out) ?_; clear S; rintro e w14 ⟨_, rfl, b6, p6, l6, K6, m6, e6, rfl, h6, n6, d6⟩ S H
          refine iv5 H n1 n2 n3 n4 n5 ?_; clear n1 n2 n3 n4 n5; intro n1 n2 n3 n4 n5; replace HH := HH.trans H.to32; clear H
          go_wp2_with fail
          refine ho hKK (con6 (S.c6 0 rfl) (S.c6 1 rfl)) fun hS => ?_
          clear hKK KK
          refine rd 11 fun KK hKK => ?_
          go_simp; clear hS
          have H := S.hnew 27 [.bool false, .slice none 0 0, .int .i64 0]
          replace S := S.al 27 [.bool false, .slice none 0 0, .int .i64 0] (w14.heap.size)
          refine iv6 H n1 n2 n3 n4 n5 n6 ?_; clear n1 n2 n3 n4 n5 n6; intro n1 n2 n3 n4 n5 n6; replace HH := HH.trans H.to32; clear H
          refine ho hKK (con6 (S.c6 0 rfl) (S.c6 1 rfl)) fun hS => ?_
          generalize (w14.alloc (.cells #[.bool false, .slice none 0 0, .int .i64 0] 27)) = w15 at S n1 n2 n3 n4 n5 n6 HH hS ⊢
          clear hKK KK
          refine rd 12 fun KK hKK => ?_
          obtain ⟨c0, c1, c2⟩ := S.c3 3 rfl; obtain ⟨f0, f1, f2⟩ := S.f3 3 rfl
          go_simp; clear hS c0 f0 c1 f1 c2 f2
          have HP := S.put3 3 (.bool b5) (.slice p5 l5 K5) (.int .i64 e5) rfl rfl; have H := HP.2; replace S := HP.1; clear HP
          refine iw7 H n1 n2 n3 n4 n5 n6 HH ?_; clear n1 n2 n3 n4 n5 n6 HH H; intro n1 n2 n3 n4 n5 n6 HH
          refine ho hKK (con6 (S.c6 0 rfl) (S.c6 1 rfl)) fun hS => ?_
          generalize (((w15.setCell ⟨w3.heap.size, 0, none⟩ (.bool b5)).setCell ⟨w3.heap.size, 1, none⟩ (.slice p5 l5 K5)).setCell ⟨w3.heap.size, 2, none⟩ (.int .i64 e5)) = w16 at S n1 n2 n3 n4 n5 n6 HH hS ⊢
          clear hKK KK
          refine rd 13 fun KK hKK => ?_
          obtain ⟨c0, c1, c2⟩ := S.c3 4 rfl; obtain ⟨f0, f1, f2⟩ := S.f3 4 rfl
          go_simp; clear hS c0 f0 c1 f1 c2 f2
          have HP := S.put3 4 (.bool b6) (.slice p6 l6 K6) (.int .i64 e6) rfl rfl; have H := HP.2; replace S := HP.1; clear HP
          refine iw7 H n1 n2 n3 n4 n5 n6 HH ?_; clear n1 n2 n3 n4 n5 n6 HH H; intro n1 n2 n3 n4 n5 n6 HH
          refine ho hKK (con6 (S.c6 0 rfl) (S.c6 1 rfl)) fun hS => ?_
          generalize (((w16.setCell ⟨w14.heap.size, 0, none⟩ (.bool b6)).setCell ⟨w14.heap.size, 1, none⟩ (.slice p6 l6 K6)).setCell ⟨w14.heap.size, 2, none⟩ (.int .i64 e6)) = w17 at S n1 n2 n3 n4 n5 n6 HH hS ⊢
          clear hKK KK
          refine wpAnyH_done (by kernel_rfl) ?_ _
          go_wp2_with fail
          go_meet
          case rel => exact ⟨w3.heap.size, w14.heap.size, b5, p5, l5, K5, m5, e5, b6, p6, l6, K6, m6, e6, rfl, rfl, Su.of S [0, 1, 2, 3, 4] rfl, h5, n5, d5, h6, n6, d6, HH⟩
        ·
          go_simp; clear hS
          have H := S.hnew 27 [.bool false, .slice none 0 0, .int .i64 0]
          replace S := S.al 27 [.bool false, .slice none 0 0, .int .i64 0] (w13.heap.size)
          refine iv5 H n1 n2 n3 n4 n5 ?_; clear n1 n2 n3 n4 n5; intro n1 n2 n3 n4 n5; replace HH := HH.trans H.to32; clear H
          refine ho hKK (con6 (S.c6 0 rfl) (S.c6 1 rfl)) fun hS => ?_
          generalize (w13.alloc (.cells #[.bool false, .slice none 0 0, .int .i64 0] 27)) = w18 at S n1 n2 n3 n4 n5 HH hS ⊢
          clear hKK KK
          refine rd 9 fun KK hKK => ?_
          go_simp; clear hS
          refine S.cl (dmin_any ⟨b2, p2, l2, K2, m2, e2, rfl, h2, n2, d2⟩ ⟨b4, p4, l4, K4, m4, e4, rfl, h4, n4, d4⟩ HK.out) ?_; clear S; rintro e w19 ⟨_, rfl, b6, p6, l6, K6, m6, e6, rfl, h6, n6, d6⟩ S H
          refine iv5 H n1 n2 n3 n4 n5 ?_; clear n1 n2 n3 n4 n5; intro n1 n2 n3 n4 n5; replace HH := HH.trans H.to32; clear H
          go_wp2_with fail
          refine ho hKK (con6 (S.c6 0 rfl) (S.c6 1 rfl)) fun hS => ?_
          clear hKK KK
          refine rd 12 fun KK hKK => ?_
          obtain ⟨c0, c1, c2⟩ := S.c3 3 rfl; obtain ⟨f0, f1, f2⟩ := S.f3 3 rfl
          go_simp; clear hS c0 f0 c1 f1 c2 f2
          have HP := S.put3 3 (.bool b5) (.slice p5 l5 K5) (.int .i64 e5) rfl rfl; have H := HP.2; replace S := HP.1; clear HP
          refine iw7 H n1 n2 n3 n4 n5 n6 HH ?_; clear n1 n2 n3 n4 n5 n6 HH H; intro n1 n2 n3 n4 n5 n6 HH
          refine ho hKK (con6 (S.c6 0 rfl) (S.c6 1 rfl)) fun hS => ?_
          generalize (((w19.setCell ⟨w3.heap.size, 0, none⟩ (.bool b5)).setCell ⟨w3.heap.size, 1, none⟩ (.slice p5 l5 K5)).setCell ⟨w3.heap.size, 2, none⟩ (.int .i64 e5)) = w20 at S n1 n2 n3 n4 n5 n6 HH hS ⊢
          clear hKK KK
          refine rd 13 fun KK hKK => ?_
          obtain ⟨c0, c1, c2⟩ := S.c3 4 rfl; obtain ⟨f0, f1, f2⟩ := S.f3 4 rfl
          go_simp; clear hS c0 f0 c1 f1 c2 f2
          have HP := S.put3 4 (.bool b6) (.slice p6 l6 K6) (.int .i64 e6) rfl rfl; have H := HP.2; replace S := HP.1; clear HP
          refine iw7 H n1 n2 n3 n4 n5 n6 HH ?_; clear n1 n2 n3 n4 n5 n6 HH H; intro n1 n2 n3 n4 n5 n6 HH
          refine ho hKK (con6 (S.c6 0 rfl) (S.c6 1 rfl)) fun hS => ?_
          generalize (((w20.setCell ⟨w13.heap.size, 0, none⟩ (.bool b6)).setCell ⟨w13.heap.size, 1, none⟩ (.slice p6 l6 K6)).setCell ⟨w13.heap.size, 2, none⟩ (.int .i64 e6)) = w21 at S n1 n2 n3 n4 n5 n6 HH hS ⊢
          clear hKK KK
          refine wpAnyH_done (by kernel_rfl) ?_ _
          go_wp2_with fail
          go_meet
          case rel => exact ⟨w3.heap.size, w13.heap.size, b5, p5, l5, K5, m5, e5, b6, p6, l6, K6, m6, e6, rfl, rfl, Su.of S [0, 1, 2, 3, 4] rfl, h5, n5, d5, h6, n6, d6, HH⟩
      ·
        go_simp; clear hS
        have H := S.hnew 27 [.bool false, .slice none 0 0, .int .i64 0]
        replace S := S.al 27 [.bool false, .slice none 0 0, .int .i64 0] (w3.heap.size)
        refine iv5 H n1 n2 n3 n4 n5 ?_; clear n1 n2 n3 n4 n5; intro n1 n2 n3 n4 n5; replace HH := HH.trans H.to32; clear H
        refine ho hKK (con6 (S.c6 0 rfl) (S.c6 1 rfl)) fun hS => ?_
        generalize (w3.alloc (.cells #[.bool false, .slice none 0 0, .int .i64 0] 27)) = w22 at S n1 n2 n3 n4 n5 HH hS ⊢
        clear hKK KK
        refine wpAnyH_ready (rs := [9, 10]) (by kernel_rfl) (by simp) (AllReadyH.cons (opOf rfl) (fun KK hKK => ?_) (AllReadyH.cons (opOf rfl) (fun KK hKK => ?_) AllReadyH.nil))
        ·
          go_simp; clear hS
          refine S.cl (dmin_any ⟨b2, p2, l2, K2, m2, e2, rfl, h2, n2, d2⟩ ⟨b4, p4, l4, K4, m4, e4, rfl, h4, n4, d4⟩ HK.out) ?_; clear S; rintro e w23 ⟨_, rfl, b6, p6, l6, K6, m6, e6, rfl, h6, n6, d6⟩ S H
          refine iv5 H n1 n2 n3 n4 n5 ?_; clear n1 n2 n3 n4 n5; intro n1 n2 n3 n4 n5; replace HH := HH.trans H.to32; clear H
          go_wp2_with fail
          refine ho hKK (con6 (S.c6 0 rfl) (S.c6 1 rfl)) fun hS => ?_
          clear hKK KK
          refine rd 10 fun KK hKK => ?_
          go_simp; clear hS
          have H := S.hnew 27 [.bool false, .slice none 0 0, .int .i64 0]
          replace S := S.al 27 [.bool false, .slice none 0 0, .int .i64 0] (w23.heap.size)
          refine iv6 H n1 n2 n3 n4 n5 n6 ?_; clear n1 n2 n3 n4 n5 n6; intro n1 n2 n3 n4 n5 n6; replace HH := HH.trans H.to32; clear H
          refine ho hKK (con6 (S.c6 0 rfl) (S.c6 1 rfl)) fun hS => ?_
          generalize (w23.alloc (.cells #[.bool false, .slice none 0 0, .int .i64 0] 27)) = w24 at S n1 n2 n3 n4 n5 n6 HH hS ⊢
          clear hKK KK
          refine rd 12 fun KK hKK => ?_
          obtain ⟨c0, c1, c2⟩ := S.c3 4 rfl; obtain ⟨f0, f1, f2⟩ := S.f3 4 rfl
          go_simp; clear hS c0 f0 c1 f1 c2 f2
          have HP := S.put3 4 (.bool b5) (.slice p5 l5 K5) (.int .i64 e5) rfl rfl; have H := HP.2; replace S := HP.1; clear HP
          refine iw7 H n1 n2 n3 n4 n5 n6 HH ?_; clear n1 n2 n3 n4 n5 n6 HH H; intro n1 n2 n3 n4 n5 n6 HH
          refine ho hKK (con6 (S.c6 0 rfl) (S.c6 1 rfl)) fun hS => ?_
          generalize (((w24.setCell ⟨w23.heap.size, 0, none⟩ (.bool b5)).setCell ⟨w23.heap.size, 1, none⟩ (.slice p5 l5 K5)).setCell ⟨w23.heap.size, 2, none⟩ (.int .i64 e5)) = w25 at S n1 n2 n3 n4 n5 n6 HH hS ⊢
          clear hKK KK
          refine rd 13 fun KK hKK => ?_
          obtain ⟨c0, c1, c2⟩ := S.c3 3 rfl; obtain ⟨f0, f1, f2⟩ := S.f3 3 rfl
          go_simp; clear hS c0 f0 c1 f1 c2 f2
          have HP := S.put3 3 (.bool b6) (.slice p6 l6 K6) (.int .i64 e6) rfl rfl; have H := HP.2; replace S := HP.1; clear HP
          refine iw7 H n1 n2 n3 n4 n5 n6 HH ?_; clear n1 n2 n3 n4 n5 n6 HH H; intro n1 n2 n3 n4 n5 n6 HH
          refine ho hKK (con6 (S.c6 0 rfl) (S.c6 1 rfl)) fun hS => ?_
          generalize (((w25.setCell ⟨w3.heap.size, 0, none⟩ (.bool b6)).setCell ⟨w3.heap.size, 1, none⟩ (.slice p6 l6 K6)).setCell ⟨w3.heap.size, 2, none⟩ (.int .i64 e6)) = w26 at S n1 n2 n3 n4 n5 n6 HH hS ⊢
          clear hKK KK
          refine wpAnyH_done (by kernel_rfl) ?_ _
          go_wp2_with fail
          go_meet
          case rel => exact ⟨w23.heap.size, w3.heap.size, b5, p5, l5, K5, m5, e5, b6, p6, l6, K6, m6, e6, rfl, rfl, Su.of S [0, 1, 2, 4, 3] rfl, h5, n5, d5, h6, n6, d6, HH⟩
        ·
          go_simp; clear hS
          have H := S.hnew 27 [.bool false, .slice none 0 0, .int .i64 0]
          replace S := S.al 27 [.bool false, .slice none 0 0, .int .i64 0] (w22.heap.size)
          refine iv5 H n1 n2 n3 n4 n5 ?_; clear n1 n2 n3 n4 n5; intro n1 n2 n3 n4 n5; replace HH := HH.trans H.to32; clear H
          refine ho hKK (con6 (S.c6 0 rfl) (S.c6 1 rfl)) fun hS => ?_
          generalize (w22.alloc (.cells #[.bool false, .slice none 0 0, .int .i64 0] 27)) = w27 at S n1 n2 n3 n4 n5 HH hS ⊢
          clear hKK KK
          refine rd 9 fun KK hKK => ?_
          go_simp; clear hS
          refine S.cl (dmin_any ⟨b2, p2, l2, K2, m2, e2, rfl, h2, n2, d2⟩ ⟨b4, p4, l4, K4, m4, e4, rfl, h4, n4, d4⟩ HK.out) ?_; clear S; rintro e w28 ⟨_, rfl, b6, p6, l6, K6, m6, e6, rfl, h6, n6, d6⟩ S H
          refine iv5 H n1 n2 n3 n4 n5 ?_; clear n1 n2 n3 n4 n5; intro n1 n2 n3 n4 n5; replace HH := HH.trans H.to32; clear H
          go_wp2_with fail
          refine ho hKK (con6 (S.c6 0 rfl) (S.c6 1 rfl)) fun hS => ?_
          clear hKK KK
          refine rd 12 fun KK hKK => ?_
          obtain ⟨c0, c1, c2⟩ := S.c3 4 rfl; obtain ⟨f0, f1, f2⟩ := S.f3 4 rfl
          go_simp; clear hS c0 f0 c1 f1 c2 f2
          have HP := S.put3 4 (.bool b5) (.slice p5 l5 K5) (.int .i64 e5) rfl rfl; have H := HP.2; replace S := HP.1; clear HP
          refine iw7 H n1 n2 n3 n4 n5 n6 HH ?_; clear n1 n2 n3 n4 n5 n6 HH H; intro n1 n2 n3 n4 n5 n6 HH
          refine ho hKK (con6 (S.c6 0 rfl) (S.c6 1 rfl)) fun hS => ?_
          generalize (((w28.setCell ⟨w22.heap.size, 0, none⟩ (.bool b5)).setCell ⟨w22.heap.size, 1, none⟩ (.slice p5 l5 K5)).setCell ⟨w22.heap.size, 2, none⟩ (.int .i64 e5)) = w29 at S n1 n2 n3 n4 n5 n6 HH hS ⊢
          clear hKK KK
          refine rd 13 fun KK hKK => ?_
          obtain ⟨c0, c1, c2⟩ := S.c3 3 rfl; obtain ⟨f0, f1, f2⟩ := S.f3 3 rfl
          go_simp; clear hS c0 f0 c1 f1 c2 f2
          have HP := S.put3 3 (.bool b6) (.slice p6 l6 K6) (.int .i64 e6) rfl rfl; have H := HP.2; replace S := HP.1; clear HP
          refine iw7 H n1 n2 n3 n4 n5 n6 HH ?_; clear n1 n2 n3 n4 n5 n6 HH H; intro n1 n2 n3 n4 n5 n6 HH
          refine ho hKK (con6 (S.c6 0 rfl) (S.c6 1 rfl)) fun hS => ?_
          generalize (((w29.setCell ⟨w3.heap.size, 0, none⟩ (.bool b6)).setCell ⟨w3.heap.size, 1, none⟩ (.slice p6 l6 K6)).setCell ⟨w3.heap.size, 2, none⟩ (.int .i64 e6)) = w30 at S n1 n2 n3 n4 n5 n6 HH hS ⊢
          clear hKK KK
          refine wpAnyH_done (by kernel_rfl) ?_ _
          go_wp2_with fail
          go_meet
          case rel => exact ⟨w22.heap.size, w3.heap.size, b5, p5, l5, K5, m5, e5, b6, p6, l6, K6, m6, e6, rfl, rfl, Su.of S [0, 1, 2, 4, 3] rfl, h5, n5, d5, h6, n6, d6, HH⟩
    ·
      go_simp; clear hS
      have H := S.hnew 27 [.bool false, .slice none 0 0, .int .i64 0]
      replace S := S.al 27 [.bool false, .slice none 0 0, .int .i64 0] (w2.heap.size)
      refine iv4 H n1 n2 n3 n4 ?_; clear n1 n2 n3 n4; intro n1 n2 n3 n4; replace HH := HH.trans H.to32; clear H
      refine ho hKK (con6 (S.c6 0 rfl) (S.c6 1 rfl)) fun hS => ?_
      generalize (w2.alloc (.cells #[.bool false, .slice none 0 0, .int .i64 0] 27)) = w31 at S n1 n2 n3 n4 HH hS ⊢
      clear hKK KK
      refine wpAnyH_ready (rs := [4, 11]) (by kernel_rfl) (by simp) (AllReadyH.cons (opOf rfl) (fun KK hKK => ?_) (AllReadyH.cons (opOf rfl) (fun KK hKK => ?_) AllReadyH.nil))
      ·
        go_simp; clear hS
        refine S.cl (dmax_any ⟨b1, p1, l1, K1, m1, e1, rfl, h1, n1, d1⟩ ⟨b3, p3, l3, K3, m3, e3, rfl, h3, n3, d3⟩ HK.out) ?_; clear S; rintro e w32 ⟨_, rfl, b5, p5, l5, K5, m5, e5, rfl, h5, n5, d5⟩ S H
        refine iv4 H n1 n2 n3 n4 ?_; clear n1 n2 n3 n4; intro n1 n2 n3 n4; replace HH := HH.trans H.to32; clear H
        go_wp2_with fail
        refine ho hKK (con6 (S.c6 0 rfl) (S.c6 1 rfl)) fun hS => ?_
        clear hKK KK
        refine wpAnyH_ready (rs := [9, 11]) (by kernel_rfl) (by simp) (AllReadyH.cons (opOf rfl) (fun KK hKK => ?_) (AllReadyH.cons (opOf rfl) (fun KK hKK => ?_) AllReadyH.nil))
        ·
          go_simp; clear hS
          refine S.cl (dmin_any ⟨b2, p2, l2, K2, m2, e2, rfl, h2, n2, d2⟩ ⟨b4, p4, l4, K4, m4, e4, rfl, h4, n4, d4⟩ HK.out) ?_; clear S; rintro e w33 ⟨_, rfl, b6, p6, l6, K6, m6, e6, rfl, h6, n6, d6⟩ S H
          refine iv5 H n1 n2 n3 n4 n5 ?_; clear n1 n2 n3 n4 n5; intro n1 n2 n3 n4 n5; replace HH := HH.trans H.to32; clear H
          go_wp2_with fail
          refine ho hKK (con6 (S.c6 0 rfl) (S.c6 1 rfl)) fun hS => ?_
          clear hKK KK
          refine rd 11 fun KK hKK => ?_
          go_simp; clear hS
          have H := S.hnew 27 [.bool false, .slice none 0 0, .int .i64 0]
          replace S := S.al 27 [.bool false, .slice none 0 0, .int .i64 0] (w33.heap.size)
          refine iv6 H n1 n2 n3 n4 n5 n6 ?_; clear n1 n2 n3 n4 n5 n6; intro n1 n2 n3 n4 n5 n6; replace HH := HH.trans H.to32; clear H
          refine ho hKK (con6 (S.c6 0 rfl) (S.c6 1 rfl)) fun hS => ?_
          generalize (w33.alloc (.cells #[.bool false, .slice none 0 0, .int .i64 0] 27)) = w34 at S n1 n2 n3 n4 n5 n6 HH hS ⊢
          clear hKK KK
          refine rd 12 fun KK hKK => ?_
          obtain ⟨c0, c1, c2⟩ := S.c3 3 rfl; obtain ⟨f0, f1, f2⟩ := S.f3 3 rfl
          go_simp; clear hS c0 f0 c1 f1 c2 f2
          have HP := S.put3 3 (.bool b5) (.slice p5 l5 K5) (.int .i64 e5) rfl rfl; have H := HP.2; replace S := HP.1; clear HP
          refine iw7 H n1 n2 n3 n4 n5 n6 HH ?_; clear n1 n2 n3 n4 n5 n6 HH H; intro n1 n2 n3 n4 n5 n6 HH
          refine ho hKK (con6 (S.c6 0 rfl) (S.c6 1 rfl)) fun hS => ?_
          generalize (((w34.setCell ⟨w2.heap.size, 0, none⟩ (.bool b5)).setCell ⟨w2.heap.size, 1, none⟩ (.slice p5 l5 K5)).setCell ⟨w2.heap.size, 2, none⟩ (.int .i64 e5)) = w35 at S n1 n2 n3 n4 n5 n6 HH hS ⊢
          clear hKK KK
          refine rd 13 fun KK hKK => ?_
          obtain ⟨c0, c1, c2⟩ := S.c3 4 rfl; obtain ⟨f0, f1, f2⟩ := S.f3 4 rfl
          go_simp; clear hS c0 f0 c1 f1 c2 f2
          have HP := S.put3 4 (.bool b6) (.slice p6 l6 K6) (.int .i64 e6) rfl rfl; have H := HP.2; replace S := HP.1; clear HP
          refine iw7 H n1 n2 n3 n4 n5 n6 HH ?_; clear n1 n2 n3 n4 n5 n6 HH H; intro n1 n2 n3 n4 n5 n6 HH
          refine ho hKK (con6 (S.c6 0 rfl) (S.c6 1 rfl)) fun hS => ?_
          generalize (((w35.setCell ⟨w33.heap.size, 0, none⟩ (.bool b6)).setCell ⟨w33.heap.size, 1, none⟩ (.slice p6 l6 K6)).setCell ⟨w33.heap.size, 2, none⟩ (.int .i64 e6)) = w36 at S n1 n2 n3 n4 n5 n6 HH hS ⊢
          clear hKK KK
          refine wpAnyH_done (by kernel_rfl) ?_ _
          go_wp2_with fail
          go_meet
          case rel => exact ⟨w2.heap.size, w33.heap.size, b5, p5, l5, K5, m5, e5, b6, p6, l6, K6, m6, e6, rfl, rfl, Su.of S [0, 1, 2, 3, 4] rfl, h5, n5, d5, h6, n6, d6, HH⟩
        ·
          go_simp; clear hS
          have H := S.hnew 27 [.bool false, .slice none 0 0, .int .i64 0]
          replace S := S.al 27 [.bool false, .slice none 0 0, .int .i64 0] (w32.heap.size)
          refine iv5 H n1 n2 n3 n4 n5 ?_; clear n1 n2 n3 n4 n5; intro n1 n2 n3 n4 n5; replace HH := HH.trans H.to32; clear H
          refine ho hKK (con6 (S.c6 0 rfl) (S.c6 1 rfl)) fun hS => ?_
          generalize (w32.alloc (.cells #[.bool false, .slice none 0 0, .int .i64 0] 27)) = w37 at S n1 n2 n3 n4 n5 HH hS ⊢
          clear hKK KK
          refine rd 9 fun KK hKK => ?_
          go_simp; clear hS
          refine S.cl (dmin_any ⟨b2, p2, l2, K2, m2, e2, rfl, h2, n2, d2⟩ ⟨b4, p4, l4, K4, m4, e4, rfl, h4, n4, d4⟩ HK.out) ?_; clear S; rintro e w38 ⟨_, rfl, b6, p6, l6, K6, m6, e6, rfl, h6, n6, d6⟩ S H
          refine iv5 H n1 n2 n3 n4 n5 ?_; clear n1 n2 n3 n4 n5; intro n1 n2 n3 n4 n5; replace HH := HH.trans H.to32; clear H
          go_wp2_with fail
          refine ho hKK (con6 (S.c6 0 rfl) (S.c6 1 rfl)) fun hS => ?_
          clear hKK KK
          refine rd 12 fun KK hKK => ?_
          obtain ⟨c0, c1, c2⟩ := S.c3 3 rfl; obtain ⟨f0, f1, f2⟩ := S.f3 3 rfl
          go_simp; clear hS c0 f0 c1 f1 c2 f2
          have HP := S.put3 3 (.bool b5) (.slice p5 l5 K5) (.int .i64 e5) rfl rfl; have H := HP.2; replace S := HP.1; clear HP
          refine iw7 H n1 n2 n3 n4 n5 n6 HH ?_; clear n1 n2 n3 n4 n5 n6 HH H; intro n1 n2 n3 n4 n5 n6 HH
          refine ho hKK (con6 (S.c6 0 rfl) (S.c6 1 rfl)) fun hS => ?_
          generalize (((w38.setCell ⟨w2.heap.size, 0, none⟩ (.bool b5)).setCell ⟨w2.heap.size, 1, none⟩ (.slice p5 l5 K5)).setCell ⟨w2.heap.size, 2, none⟩ (.int .i64 e5)) = w39 at S n1 n2 n3 n4 n5 n6 HH hS ⊢
          clear hKK KK
          refine rd 13 fun KK hKK => ?_
          obtain ⟨c0, c1, c2⟩ := S.c3 4 rfl; obtain ⟨f0, f1, f2⟩ := S.f3 4 rfl
          go_simp; clear hS c0 f0 c1 f1 c2 f2
          have HP := S.put3 4 (.bool b6) (.slice p6 l6 K6) (.int .i64 e6) rfl rfl; have H := HP.2; replace S := HP.1; clear HP
          refine iw7 H n1 n2 n3 n4 n5 n6 HH ?_; clear n1 n2 n3 n4 n5 n6 HH H; intro n1 n2 n3 n4 n5 n6 HH
          refine ho hKK (con6 (S.c6 0 rfl) (S.c6 1 rfl)) fun hS => ?_
          generalize (((w39.setCell ⟨w32.heap.size, 0, none⟩ (.bool b6)).setCell ⟨w32.heap.size, 1, none⟩ (.slice p6 l6 K6)).setCell ⟨w32.heap.size, 2, none⟩ (.int .i64 e6)) = w40 at S n1 n2 n3 n4 n5 n6 HH hS ⊢
          clear hKK KK
          refine wpAnyH_done (by kernel_rfl) ?_ _
          go_wp2_with fail
          go_meet
          case rel => exact ⟨w2.heap.size, w32.heap.size, b5, p5, l5, K5, m5, e5, b6, p6, l6, K6, m6, e6, rfl, rfl, Su.of S [0, 1, 2, 3, 4] rfl, h5, n5, d5, h6, n6, d6, HH⟩
      ·
        go_simp; clear hS
        have H := S.hnew 27 [.bool false, .slice none 0 0, .int .i64 0]
        replace S := S.al 27 [.bool false, .slice none 0 0, .int .i64 0] (w31.heap.size)
        refine iv4 H n1 n2 n3 n4 ?_; clear n1 n2 n3 n4; intro n1 n2 n3 n4; replace HH := HH.trans H.to32; clear H
        refine ho hKK (con6 (S.c6 0 rfl) (S.c6 1 rfl)) fun hS => ?_
        generalize (w31.alloc (.cells #[.bool false, .slice none 0 0, .int .i64 0] 27)) = w41 at S n1 n2 n3 n4 HH hS ⊢
        clear hKK KK
        refine rd 4 fun KK hKK => ?_
        go_simp; clear hS
        refine S.cl (dmax_any ⟨b1, p1, l1, K1, m1, e1, rfl, h1, n1, d1⟩ ⟨b3, p3, l3, K3, m3, e3, rfl, h3, n3, d3⟩ HK.out) ?_; clear S; rintro e w42 ⟨_, rfl, b5, p5, l5, K5, m5, e5, rfl, h5, n5, d5⟩ S H
        refine iv4 H n1 n2 n3 n4 ?_; clear n1 n2 n3 n4; intro n1 n2 n3 n4; replace HH := HH.trans H.to32; clear H
        go_wp2_with fail
        refine ho hKK (con6 (S.c6 0 rfl) (S.c6 1 rfl)) fun hS => ?_
        clear hKK KK
        refine rd 9 fun KK hKK => ?_
        go_simp; clear hS
        refine S.cl (dmin_any ⟨b2, p2, l2, K2, m2, e2, rfl, h2, n2, d2⟩ ⟨b4, p4, l4, K4, m4, e4, rfl, h4, n4, d4⟩ HK.out) ?_; clear S; rintro e w43 ⟨_, rfl, b6, p6, l6, K6, m6, e6, rfl, h6, n6, d6⟩ S H
        refine iv5 H n1 n2 n3 n4 n5 ?_; clear n1 n2 n3 n4 n5; intro n1 n2 n3 n4 n5; replace HH := HH.trans H.to32; clear H
        go_wp2_with fail
        refine ho hKK (con6 (S.c6 0 rfl) (S.c6 1 rfl)) fun hS => ?_
        clear hKK KK
        refine rd 12 fun KK hKK => ?_
        obtain ⟨c0, c1, c2⟩ := S.c3 3 rfl; obtain ⟨f0, f1, f2⟩ := S.f3 3 rfl
        go_simp; clear hS c0 f0 c1 f1 c2 f2
        have HP := S.put3 3 (.bool b5) (.slice p5 l5 K5) (.int .i64 e5) rfl rfl; have H := HP.2; replace S := HP.1; clear HP
        refine iw7 H n1 n2 n3 n4 n5 n6 HH ?_; clear n1 n2 n3 n4 n5 n6 HH H; intro n1 n2 n3 n4 n5 n6 HH
        refine ho hKK (con6 (S.c6 0 rfl) (S.c6 1 rfl)) fun hS => ?_
        generalize (((w43.setCell ⟨w2.heap.size, 0, none⟩ (.bool b5)).setCell ⟨w2.heap.size, 1, none⟩ (.slice p5 l5 K5)).setCell ⟨w2.heap.size, 2, none⟩ (.int .i64 e5)) = w44 at S n1 n2 n3 n4 n5 n6 HH hS ⊢
        clear hKK KK
        refine rd 13 fun KK hKK => ?_
        obtain ⟨c0, c1, c2⟩ := S.c3 4 rfl; obtain ⟨f0, f1, f2⟩ := S.f3 4 rfl
        go_simp; clear hS c0 f0 c1 f1 c2 f2
        have HP := S.put3 4 (.bool b6) (.slice p6 l6 K6) (.int .i64 e6) rfl rfl; have H := HP.2; replace S := HP.1; clear HP
        refine iw7 H n1 n2 n3 n4 n5 n6 HH ?_; clear n1 n2 n3 n4 n5 n6 HH H; intro n1 n2 n3 n4 n5 n6 HH
        refine ho hKK (con6 (S.c6 0 rfl) (S.c6 1 rfl)) fun hS => ?_
        generalize (((w44.setCell ⟨w31.heap.size, 0, none⟩ (.bool b6)).setCell ⟨w31.heap.size, 1, none⟩ (.slice p6 l6 K6)).setCell ⟨w31.heap.size, 2, none⟩ (.int .i64 e6)) = w45 at S n1 n2 n3 n4 n5 n6 HH hS ⊢
        clear hKK KK
        refine wpAnyH_done (by kernel_rfl) ?_ _
        go_wp2_with fail
        go_meet
        case rel => exact ⟨w2.heap.size, w31.heap.size, b5, p5, l5, K5, m5, e5, b6, p6, l6, K6, m6, e6, rfl, rfl, Su.of S [0, 1, 2, 3, 4] rfl, h5, n5, d5, h6, n6, d6, HH⟩
    ·
      go_simp; clear hS
      have H := S.hnew 27 [.bool false, .slice none 0 0, .int .i64 0]
      replace S := S.al 27 [.bool false, .slice none 0 0, .int .i64 0] (w2.heap.size)
      refine iv4 H n1 n2 n3 n4 ?_; clear n1 n2 n3 n4; intro n1 n2 n3 n4; replace HH := HH.trans H.to32; clear H
      refine ho hKK (con6 (S.c6 0 rfl) (S.c6 1 rfl)) fun hS => ?_
      generalize (w2.alloc (.cells #[.bool false, .slice none 0 0, .int .i64 0] 27)) = w46 at S n1 n2 n3 n4 HH hS ⊢
      clear hKK KK
      refine wpAnyH_ready (rs := [4, 10]) (by kernel_rfl) (by simp) (AllReadyH.cons (opOf rfl) (fun KK hKK => ?_) (AllReadyH.cons (opOf rfl) (fun KK hKK => ?_) AllReadyH.nil))
      ·
        go_simp; clear hS
        refine S.cl (dmax_any ⟨b1, p1, l1, K1, m1, e1, rfl, h1, n1, d1⟩ ⟨b3, p3, l3, K3, m3, e3, rfl, h3, n3, d3⟩ HK.out) ?_; clear S; rintro e w47 ⟨_, rfl, b5, p5, l5, K5, m5, e5, rfl, h5, n5, d5⟩ S H
        refine iv4 H n1 n2 n3 n4 ?_; clear n1 n2 n3 n4; intro n1 n2 n3 n4; replace HH := HH.trans H.to32; clear H
        go_wp2_with fail
        refine ho hKK (con6 (S.c6 0 rfl) (S.c6 1 rfl)) fun hS => ?_
        clear hKK KK
        refine wpAnyH_ready (rs := [9, 10]) (by kernel_rfl) (by simp) (AllReadyH.cons (opOf rfl) (fun KK hKK => ?_) (AllReadyH.cons (opOf rfl) (fun KK hKK => ?_) AllReadyH.nil))
        ·
          go_simp; clear hS
          refine S.cl (dmin_any ⟨b2, p2, l2, K2, m2, e2, rfl, h2, n2, d2⟩ ⟨b4, p4, l4, K4, m4, e4, rfl, h4, n4, d4⟩ HK.out) ?_; clear S; rintro e w48 ⟨_, rfl, b6, p6, l6, K6, m6, e6, rfl, h6, n6, d6⟩ S H
          refine iv5 H n1 n2 n3 n4 n5 ?_; clear n1 n2 n3 n4 n5; intro n1 n2 n3 n4 n5; replace HH := HH.trans H.to32; clear H
          go_wp2_with fail
          refine ho hKK (con6 (S.c6 0 rfl) (S.c6 1 rfl)) fun hS => ?_
          clear hKK KK
          refine rd 10 fun KK hKK => ?_
          go_simp; clear hS
          have H := S.hnew 27 [.bool false, .slice none 0 0, .int .i64 0]
          replace S := S.al 27 [.bool false, .slice none 0 0, .int .i64 0] (w48.heap.size)
          refine iv6 H n1 n2 n3 n4 n5 n6 ?_; clear n1 n2 n3 n4 n5 n6; intro n1 n2 n3 n4 n5 n6; replace HH := HH.trans H.to32; clear H
          refine ho hKK (con6 (S.c6 0 rfl) (S.c6 1 rfl)) fun hS => ?_
          generalize (w48.alloc (.cells #[.bool false, .slice none 0 0, .int .i64 0] 27)) = w49 at S n1 n2 n3 n4 n5 n6 HH hS ⊢
          clear hKK KK
          refine rd 12 fun KK hKK => ?_
          obtain ⟨c0, c1, c2⟩ := S.c3 4 rfl; obtain ⟨f0, f1, f2⟩ := S.f3 4 rfl
          go_simp; clear hS c0 f0 c1 f1 c2 f2
          have HP := S.put3 4 (.bool b5) (.slice p5 l5 K5) (.int .i64 e5) rfl rfl; have H := HP.2; replace S := HP.1; clear HP
          refine iw7 H n1 n2 n3 n4 n5 n6 HH ?_; clear n1 n2 n3 n4 n5 n6 HH H; intro n1 n2 n3 n4 n5 n6 HH
          refine ho hKK (con6 (S.c6 0 rfl) (S.c6 1 rfl)) fun hS => ?_
          generalize (((w49.setCell ⟨w48.heap.size, 0, none⟩ (.bool b5)).setCell ⟨w48.heap.size, 1, none⟩ (.slice p5 l5 K5)).setCell ⟨w48.heap.size, 2, none⟩ (.int .i64 e5)) = w50 at S n1 n2 n3 n4 n5 n6 HH hS ⊢
          clear hKK KK
          refine rd 13 fun KK hKK => ?_
          obtain ⟨c0, c1, c2⟩ := S.c3 3 rfl; obtain ⟨f0, f1, f2⟩ := S.f3 3 rfl
          go_simp; clear hS c0 f0 c1 f1 c2 f2
          have HP := S.put3 3 (.bool b6) (.slice p6 l6 K6) (.int .i64 e6) rfl rfl; have H := HP.2; replace S := HP.1; clear HP
          refine iw7 H n1 n2 n3 n4 n5 n6 HH ?_; clear n1 n2 n3 n4 n5 n6 HH H; intro n1 n2 n3 n4 n5 n6 HH
          refine ho hKK (con6 (S.c6 0 rfl) (S.c6 1 rfl)) fun hS => ?_
          generalize (((w50.setCell ⟨w2.heap.size, 0, none⟩ (.bool b6)).setCell ⟨w2.heap.size, 1, none⟩ (.slice p6 l6 K6)).setCell ⟨w2.heap.size, 2, none⟩ (.int .i64 e6)) = w51 at S n1 n2 n3 n4 n5 n6 HH hS ⊢
          clear hKK KK
          refine wpAnyH_done (by kernel_rfl) ?_ _
          go_wp2_with fail
          go_meet
          case rel => exact ⟨w48.heap.size, w2.heap.size, b5, p5, l5, K5, m5, e5, b6, p6, l6, K6, m6, e6, rfl, rfl, Su.of S [0, 1, 2, 4, 3] rfl, h5, n5, d5, h6, n6, d6, HH⟩
        ·
          go_simp; clear hS
          have H := S.hnew 27 [.bool false, .slice none 0 0, .int .i64 0]
          replace S := S.al 27 [.bool false, .slice none 0 0, .int .i64 0] (w47.heap.size)
          refine iv5 H n1 n2 n3 n4 n5 ?_; clear n1 n2 n3 n4 n5; intro n1 n2 n3 n4 n5; replace HH := HH.trans H.to32; clear H
          refine ho hKK (con6 (S.c6 0 rfl) (S.c6 1 rfl)) fun hS => ?_
          generalize (w47.alloc (.cells #[.bool false, .slice none 0 0, .int .i64 0] 27)) = w52 at S n1 n2 n3 n4 n5 HH hS ⊢
          clear hKK KK
          refine rd 9 fun KK hKK => ?_
          go_simp; clear hS
          refine S.cl (dmin_any ⟨b2, p2, l2, K2, m2, e2, rfl, h2, n2, d2⟩ ⟨b4, p4, l4, K4, m4, e4, rfl, h4, n4, d4⟩ HK.out) ?_; clear S; rintro e w53 ⟨_, rfl, b6, p6, l6, K6, m6, e6, rfl, h6, n6, d6⟩ S H
          refine iv5 H n1 n2 n3 n4 n5 ?_; clear n1 n2 n3 n4 n5; intro n1 n2 n3 n4 n5; replace HH := HH.trans H.to32; clear H
          go_wp2_with fail
          refine ho hKK (con6 (S.c6 0 rfl) (S.c6 1 rfl)) fun hS => ?_
          clear hKK KK
          refine rd 12 fun KK hKK => ?_
          obtain ⟨c0, c1, c2⟩ := S.c3 4 rfl; obtain ⟨f0, f1, f2⟩ := S.f3 4 rfl
          go_simp; clear hS c0 f0 c1 f1 c2 f2
          have HP := S.put3 4 (.bool b5) (.slice p5 l5 K5) (.int .i64 e5) rfl rfl; have H := HP.2; replace S := HP.1; clear HP
          refine iw7 H n1 n2 n3 n4 n5 n6 HH ?_; clear n1 n2 n3 n4 n5 n6 HH H; intro n1 n2 n3 n4 n5 n6 HH
          refine ho hKK (con6 (S.c6 0 rfl) (S.c6 1 rfl)) fun hS => ?_
          generalize (((w53.setCell ⟨w47.heap.size, 0, none⟩ (.bool b5)).setCell ⟨w47.heap.size, 1, none⟩ (.slice p5 l5 K5)).setCell ⟨w47.heap.size, 2, none⟩ (.int .i64 e5)) = w54 at S n1 n2 n3 n4 n5 n6 HH hS ⊢
          clear hKK KK
          refine rd 13 fun KK hKK => ?_
          obtain ⟨c0, c1, c2⟩ := S.c3 3 rfl; obtain ⟨f0, f1, f2⟩ := S.f3 3 rfl
          go_simp; clear hS c0 f0 c1 f1 c2 f2
          have HP := S.put3 3 (.bool b6) (.slice p6 l6 K6) (.int .i64 e6) rfl rfl; have H := HP.2; replace S := HP.1; clear HP
          refine iw7 H n1 n2 n3 n4 n5 n6 HH ?_; clear n1 n2 n3 n4 n5 n6 HH H; intro n1 n2 n3 n4 n5 n6 HH
          refine ho hKK (con6 (S.c6 0 rfl) (S.c6 1 rfl)) fun hS => ?_
          generalize (((w54.setCell ⟨w2.heap.size, 0, none⟩ (.bool b6)).setCell ⟨w2.heap.size, 1, none⟩ (.slice p6 l6 K6)).setCell ⟨w2.heap.size, 2, none⟩ (.int .i64 e6)) = w55 at S n1 n2 n3 n4 n5 n6 HH hS ⊢
          clear hKK KK
          refine wpAnyH_done (by kernel_rfl) ?_ _
          go_wp2_with fail
          go_meet
          case rel => exact ⟨w47.heap.size, w2.heap.size, b5, p5, l5, K5, m5, e5, b6, p6, l6, K6, m6, e6, rfl, rfl, Su.of S [0, 1, 2, 4, 3] rfl, h5, n5, d5, h6, n6, d6, HH⟩
      ·
        go_simp; clear hS
        have H := S.hnew 27 [.bool false, .slice none 0 0, .int .i64 0]
        replace S := S.al 27 [.bool false, .slice none 0 0, .int .i64 0] (w46.heap.size)
        refine iv4 H n1 n2 n3 n4 ?_; clear n1 n2 n3 n4; intro n1 n2 n3 n4; replace HH := HH.trans H.to32; clear H
        refine ho hKK (con6 (S.c6 0 rfl) (S.c6 1 rfl)) fun hS => ?_
        generalize (w46.alloc (.cells #[.bool false, .slice none 0 0, .int .i64 0] 27)) = w56 at S n1 n2 n3 n4 HH hS ⊢
        clear hKK KK
        refine rd 4 fun KK hKK => ?_
        go_simp; clear hS
        refine S.cl (dmax_any ⟨b1, p1, l1, K1, m1, e1, rfl, h1, n1, d1⟩ ⟨b3, p3, l3, K3, m3, e3, rfl, h3, n3, d3⟩ HK.out) ?_; clear S; rintro e w57 ⟨_, rfl, b5, p5, l5, K5, m5, e5, rfl, h5, n5, d5⟩ S H
        refine iv4 H n1 n2 n3 n4 ?_; clear n1 n2 n3 n4; intro n1 n2 n3 n4; replace HH := HH.trans H.to32; clear H
        go_wp2_with fail
        refine ho hKK (con6 (S.c6 0 rfl) (S.c6 1 rfl)) fun hS => ?_
        clear hKK KK
        refine rd 9 fun KK hKK => ?_
        go_simp; clear hS
        refine S.cl (dmin_any ⟨b2, p2, l2, K2, m2, e2, rfl, h2, n2, d2⟩ ⟨b4, p4, l4, K4, m4, e4, rfl, h4, n4, d4⟩ HK.out) ?_; clear S; rintro e w58 ⟨_, rfl, b6, p6, l6, K6, m6, e6, rfl, h6, n6, d6⟩ S H
        refine iv5 H n1 n2 n3 n4 n5 ?_; clear n1 n2 n3 n4 n5; intro n1 n2 n3 n4 n5; replace HH := HH.trans H.to32; clear H
        go_wp2_with fail
        refine ho hKK (con6 (S.c6 0 rfl) (S.c6 1 rfl)) fun hS => ?_
        clear hKK KK
        refine rd 12 fun KK hKK => ?_
        obtain ⟨c0, c1, c2⟩ := S.c3 4 rfl; obtain ⟨f0, f1, f2⟩ := S.f3 4 rfl
        go_simp; clear hS c0 f0 c1 f1 c2 f2
        have HP := S.put3 4 (.bool b5) (.slice p5 l5 K5) (.int .i64 e5) rfl rfl; have H := HP.2; replace S := HP.1; clear HP
        refine iw7 H n1 n2 n3 n4 n5 n6 HH ?_; clear n1 n2 n3 n4 n5 n6 HH H; intro n1 n2 n3 n4 n5 n6 HH
        refine ho hKK (con6 (S.c6 0 rfl) (S.c6 1 rfl)) fun hS => ?_
        generalize (((w58.setCell ⟨w46.heap.size, 0, none⟩ (.bool b5)).setCell ⟨w46.heap.size, 1, none⟩ (.slice p5 l5 K5)).setCell ⟨w46.heap.size, 2, none⟩ (.int .i64 e5)) = w59 at S n1 n2 n3 n4 n5 n6 HH hS ⊢
        clear hKK KK
        refine rd 13 fun KK hKK => ?_
        obtain ⟨c0, c1, c2⟩ := S.c3 3 rfl; obtain ⟨f0, f1, f2⟩ := S.f3 3 rfl
        go_simp; clear hS c0 f0 c1 f1 c2 f2
        have HP := S.put3 3 (.bool b6) (.slice p6 l6 K6) (.int .i64 e6) rfl rfl; have H := HP.2; replace S := HP.1; clear HP
        refine iw7 H n1 n2 n3 n4 n5 n6 HH ?_; clear n1 n2 n3 n4 n5 n6 HH H; intro n1 n2 n3 n4 n5 n6 HH
        refine ho hKK (con6 (S.c6 0 rfl) (S.c6 1 rfl)) fun hS => ?_
        generalize (((w59.setCell ⟨w2.heap.size, 0, none⟩ (.bool b6)).setCell ⟨w2.heap.size, 1, none⟩ (.slice p6 l6 K6)).setCell ⟨w2.heap.size, 2, none⟩ (.int .i64 e6)) = w60 at S n1 n2 n3 n4 n5 n6 HH hS ⊢
        clear hKK KK
        refine wpAnyH_done (by kernel_rfl) ?_ _
        go_wp2_with fail
        go_meet
        case rel => exact ⟨w46.heap.size, w2.heap.size, b5, p5, l5, K5, m5, e5, b6, p6, l6, K6, m6, e6, rfl, rfl, Su.of S [0, 1, 2, 4, 3] rfl, h5, n5, d5, h6, n6, d6, HH⟩
  case rest =>
    obtain ⟨g6, g7, b5, p5, l5, K5, m5, e5, b6, p6, l6, K6, m6, e6, rfl, rfl, S, h5, n5, d5, h6, n6, d6, HH⟩ := hcut
    obtain ⟨w61, rfl⟩ : ∃ W : World, W = wc := ⟨_, rfl⟩
    refine iw4 HH n1 n2 n3 n4 ?_; clear n1 n2 n3 n4 HH; intro n1 n2 n3 n4; have c2_ := S.c6 2 rfl; have c3_ := S.c3 3 rfl; have c4_ := S.c3 4 rfl; go_wp2_with fail; clear c2_ c3_ c4_
    refine S.cl (dless_any ⟨b6, p6, l6, K6, m6, e6, rfl, h6, n6, d6⟩ ⟨b5, p5, l5, K5, m5, e5, rfl, h5, n5, d5⟩ HK.out false hl.out) ?_; clear S; rintro e w62 rfl S H
    refine iv6 H n1 n2 n3 n4 n5 n6 ?_; clear n1 n2 n3 n4 n5 n6; intro n1 n2 n3 n4 n5 n6
    clear H; have c2_ := S.c6 2 rfl; have c3_ := S.c3 3 rfl; have c4_ := S.c3 4 rfl
    obtain ⟨f2_0, f2_1, f2_2, f2_3, f2_4, f2_5⟩ := S.f6 2 rfl
    have HP := S.put6 2 (.bool b5) (.slice p5 l5 K5) (.int .i64 e5) (.bool b6) (.slice p6 l6 K6) (.int .i64 e6) rfl rfl; have H := HP.2; replace S := HP.1; clear HP
    refine iw6 H n1 n2 n3 n4 n5 n6 ?_; clear n1 n2 n3 n4 n5 n6; intro n1 n2 n3 n4 n5 n6
    clear H; go_wp2_with fail; obtain ⟨d2_0, d2_1, d2_2, d2_3, d2_4, d2_5⟩ := S.c6 2 rfl
    exact bodyPost_ret (v := .tuple #[.agg #[.bool b5, .slice p5 l5 K5, .int .i64 e5, .bool b6, .slice p6 l6 K6, .int .i64 e6], .int .i64 0]) (by simp [results, Tryz.f33, go_sem, d2_0, d2_1, d2_2, d2_3, d2_4, d2_5]) rfl (⟨⟨_, rfl, b5, p5, l5, K5, m5, e5, b6, p6, l6, K6, m6, e6, rfl, h5, n5, d5, h6, n6, d6⟩, S.below⟩)
def TriedD (k : Nat) (E : Int) (b : Bool) (ds : List Nat) (e : Int) : Prop := ds.length ≤ k ∧ (-E ≤ e ∧ e ≤ E) ∧ ValidD b ds e
def sgnI (b : Bool) (n : Nat) : Int := if b = true then -(n : Int) else (n : Int)
def rawQ (b : Bool) (ds : List Nat) (e : Int) : Rat := dq (sgnI b (val 4294967296 ds)) e
theorem sgnI_abs (b : Bool) (n : Nat) : (sgnI b n).natAbs = n := by unfold sgnI; split <;> omega
theorem raw_dy {k : Nat} {E e : Int} {b : Bool} {ds : List Nat} {l : Nat} {p : Option Addr} {K : Nat} {w : World} (h : TriedD k E b ds e) (hd : Dig 4294967296 ds) (hl : ds.length = l) (hat : At .u32 w p K ds) (hE : 0 ≤ E) :
    ∃ m : Int, Hid (negB m = b) ∧ IsNat w (.slice p l K) m.natAbs ∧ Hid (DyF m e (rawQ b ds e) E.toNat (32 * k + E.toNat)) := by
  subst hl
  obtain ⟨h1, h2, v1, v2, _, v4⟩ := h
  have hc : Can 4294967296 ds := ⟨hd, v1⟩
  have hb := nb_len hc h1
  have hn : IsNat w (.slice p ds.length K) (val 4294967296 ds) := ⟨ds, hat.nums, hc, rfl⟩
  have hm1 : negB (sgnI b (val 4294967296 ds)) = b := by
    cases b with
    | false => unfold sgnI; rw [if_neg (by decide)]; exact negB_neg (by omega)
    | true =>
      unfold sgnI; rw [if_pos rfl]
      refine negB_pos ?_
      have : val 4294967296 ds ≠ 0 := fun e0 => v2 rfl (hc.eq_nil (by decide) e0)
      omega
  have hm2 := sgnI_abs b (val 4294967296 ds)
  refine ⟨sgnI b (val 4294967296 ds), hm1, by rw [hm2]; exact hn, ?_, ?_, rfl⟩
  · rcases v4 with ⟨a, c⟩ | a
    · exact .inl ⟨by omega, c⟩
    · exact .inr (by omega)
  · exact ZF.of (n := 32 * k) (by rw [hm2]; exact nb_pb hb (Nat.le_refl _)) (by omega) (by omega)
structure SpR where
  (b c : Bool) (p q : Option Addr) (ds es : List Nat) (K J : Nat) (e f : Int)
def TriedS (z : SpR) : Prop := TriedD 10 200 z.b z.ds z.e ∧ TriedD 10 200 z.c z.es z.f ∧ ¬ rawQ z.c z.es z.f < rawQ z.b z.ds z.e
set_option maxRecDepth 100000 in
set_option maxHeartbeats 4000000 in
theorem scheck_raw (b c : Bool) (p q : Option Addr) (K J l j : Nat) (ds es : List Nat) (e f : Int) (w : World) (hT : Tab w) (at1 : At .u32 w p K ds) (d1 : Dig 4294967296 ds) (hl : ds.length = l) (at2 : At .u32 w q J es) (d2 : Dig 4294967296 es) (hj : es.length = j) (l10 : l ≤ 10) (j10 : j ≤ 10) (he : -200 ≤ e ∧ e ≤ 200) (hf : -200 ≤ f ∧ f ≤ 200) :
    Calls Tryz.prog 64 #[.agg #[.bool b, .slice p l K, .int .i64 e, .bool c, .slice q j J, .int .i64 f]] w fun ev w' => (∃ r : Int, ev = .returned (.int .i64 r) ∧ Hid (r = 0 → TriedS ⟨b, c, p, q, ds, es, K, J, e, f⟩)) ∧ Below w.heap.size w w' := by
  have HD := Lib.hid (And.intro hT (And.intro d1 (And.intro hl (And.intro d2 hj))))
  have HB := Lib.hid (And.intro l10 (And.intro j10 (And.intro he hf)))
  clear hT d1 hl d2 hj l10 j10 he hf
  have i0 : ∀ W : World, (Instr.index 118 (.agg #[.bool b, .slice p l K, .int .i64 e, .bool c, .slice q j J, .int .i64 f]) (.int .i64 0)).run Tryz.prog W = .ok (.agg #[.bool b, .slice p l K, .int .i64 e]) W := fun _ => by kernel_rfl
  have i1 : ∀ W : World, (Instr.index 118 (.agg #[.bool b, .slice p l K, .int .i64 e, .bool c, .slice q j J, .int .i64 f]) (.int .i64 1)).run Tryz.prog W = .ok (.agg #[.bool c, .slice q j J, .int .i64 f]) W := fun _ => by kernel_rfl
  have S := (St.start w).alloc 29 [.bool b, .slice p l K, .int .i64 e, .bool c, .slice q j J, .int .i64 f] (w.heap.size)
  try simp only [List.nil_append] at S
  replace at1 := at1.hold S.hold; replace at2 := at2.hold S.hold
  have c0_ := S.c6 0 rfl
  go_enter Tryz.func64, Tryz.ntmps64
  go_wp2_with fail; clear c0_
  refine S.cl (sends_any b c p q l K j J e f _) ?_; clear S; rintro e w1 rfl S H
  replace at1 := at1.hold H; replace at2 := at2.hold H
  clear H; have c0_ := S.c6 0 rfl; go_wp2_with fail; clear c0_
  go_loopw [8] (fun si wr => (si = .int .i64 0 ∧ At .u32 wr p K ds ∧ At .u32 wr q J es ∧ St w wr [(w.heap.size, 29, [.bool b, .slice p l K, .int .i64 e, .bool c, .slice q j J, .int .i64 f])]) ∨ (si = .int .i64 1 ∧ Hid (ValidD b ds e) ∧ At .u32 wr p K ds ∧ At .u32 wr q J es ∧ St w wr [(w.heap.size, 29, [.bool b, .slice p l K, .int .i64 e, .bool c, .slice q j J, .int .i64 f])]) ∨ (si = .int .i64 2 ∧ Hid (ValidD b ds e) ∧ Hid (ValidD c es f) ∧ At .u32 wr p K ds ∧ At .u32 wr q J es ∧ St w wr [(w.heap.size, 29, [.bool b, .slice p l K, .int .i64 e, .bool c, .slice q j J, .int .i64 f])])) (fun si _ => 2 - (intOf si).toNat)
  case atStart => exact .inl ⟨rfl, at1, at2, S⟩
  case round =>
    clear at1 at2 S
    rcases hrel with ⟨rfl, at1, at2, S⟩ | ⟨rfl, v1, at1, at2, S⟩ | ⟨rfl, v1, v2, at1, at2, S⟩
    ·
      have H := S.hnew 27 [.bool b, .slice p l K, .int .i64 e]
      replace S := S.al 27 [.bool b, .slice p l K, .int .i64 e] (wr.heap.size)
      replace at1 := at1.hold H; replace at2 := at2.hold H
      clear H; have c0_ := S.c6 0 rfl; have c1_ := S.c3 1 rfl; go_wp2_with fail; clear c0_ c1_
      refine S.cl (dcheck_raw b p K l ds e _ (HD.out.1.below S.below) at1 HD.out.2.1 HD.out.2.2.1 (by have := HB.out; omega)) ?_; clear S; rintro e w21 ⟨r, rfl, hr⟩ S H
      replace at1 := at1.hold H; replace at2 := at2.hold H
      clear H; have c0_ := S.c6 0 rfl; have c1_ := S.c3 1 rfl
      by_cases h0 : r = 0
      · have h0' : (r != 0) = false := by rw [h0]; rfl
        have v1 := Lib.hid (hr.out h0)
        clear h0 hr; go_wp2_with fail
        replace S := S.take 1 (L := [(w.heap.size, 29, [.bool b, .slice p l K, .int .i64 e, .bool c, .slice q j J, .int .i64 f])]) rfl
        go_roundw
        case rel => exact .inr (.inl ⟨rfl, v1, at1, at2, S⟩)
        case measure => simp [intOf]
      · have h0' : (r != 0) = true := by simpa using h0
        have hz : Hid (r = 0 → TriedS ⟨b, c, p, q, ds, es, K, J, e, f⟩) := fun h => absurd h h0
        clear h0 hr; go_wp2_with fail
        go_ret
        first | exact ⟨⟨r, rfl, hz⟩, S.below⟩ | exact ⟨hz, S.below⟩ | exact ⟨.inl ⟨rfl, hz⟩, S.below⟩
    ·
      have H := S.hnew 27 [.bool c, .slice q j J, .int .i64 f]
      replace S := S.al 27 [.bool c, .slice q j J, .int .i64 f] (wr.heap.size)
      replace at1 := at1.hold H; replace at2 := at2.hold H
      clear H; have c0_ := S.c6 0 rfl; have c1_ := S.c3 1 rfl; go_wp2_with fail; clear c0_ c1_
      refine S.cl (dcheck_raw c q J j es f _ (HD.out.1.below S.below) at2 HD.out.2.2.2.1 HD.out.2.2.2.2 (by have := HB.out; omega)) ?_; clear S; rintro e w21 ⟨r, rfl, hr⟩ S H
      replace at1 := at1.hold H; replace at2 := at2.hold H
      clear H; have c0_ := S.c6 0 rfl; have c1_ := S.c3 1 rfl
      by_cases h0 : r = 0
      · have h0' : (r != 0) = false := by rw [h0]; rfl
        have v2 := Lib.hid (hr.out h0)
        clear h0 hr; go_wp2_with fail
        replace S := S.take 1 (L := [(w.heap.size, 29, [.bool b, .slice p l K, .int .i64 e, .bool c, .slice q j J, .int .i64 f])]) rfl
        go_roundw
        case rel => exact .inr (.inr ⟨rfl, v1, v2, at1, at2, S⟩)
        case measure => simp [intOf]
      · have h0' : (r != 0) = true := by simpa using h0
        have hz : Hid (r = 0 → TriedS ⟨b, c, p, q, ds, es, K, J, e, f⟩) := fun h => absurd h h0
        clear h0 hr; go_wp2_with fail
        go_ret
        first | exact ⟨⟨r, rfl, hz⟩, S.below⟩ | exact ⟨hz, S.below⟩ | exact ⟨.inl ⟨rfl, hz⟩, S.below⟩
    ·
      have t1 : TriedD 10 200 b ds e := ⟨by have := HB.out.1; rw [HD.out.2.2.1]; exact this, HB.out.2.2.1, v1.out⟩
      have t2 : TriedD 10 200 c es f := ⟨by have := HB.out.2.1; rw [HD.out.2.2.2.2]; exact this, HB.out.2.2.2, v2.out⟩
      obtain ⟨m, h3, n3, d3⟩ := raw_dy t1 HD.out.2.1 HD.out.2.2.1 at1 (by decide)
      obtain ⟨n, h4, n4, d4⟩ := raw_dy t2 HD.out.2.2.2.1 HD.out.2.2.2.2 at2 (by decide)
      have HT := Lib.hid (And.intro t1 t2)
      clear t1 t2 v1 v2 at1 at2
      by_cases hlt : rawQ c es f < rawQ b ds e
      · have hr := Lib.hid (decide_eq_true hlt)
        clear hlt; have c0_ := S.c6 0 rfl; go_wp2_with fail; clear c0_
        refine S.cl (dless_any (L := 200) (H := 520) ⟨c, q, j, J, n, f, rfl, h4, n4, d4⟩ ⟨b, p, l, K, m, e, rfl, h3, n3, d3⟩ (by decide) true hr.out) ?_; clear S; rintro e w21 rfl S H
        replace n3 := n3.hold H; replace n4 := n4.hold H
        clear H; have c0_ := S.c6 0 rfl; go_wp2_with fail
        exact bodyPost_ret (v := .int .i64 1) (by simp [results, Tryz.f64, go_sem]) rfl (⟨⟨1, rfl, fun h => absurd h (by decide)⟩, S.below⟩)
      · have hr := Lib.hid (decide_eq_false hlt)
        have hz := Lib.hid hlt
        clear hlt; have c0_ := S.c6 0 rfl; go_wp2_with fail; clear c0_
        refine S.cl (dless_any (L := 200) (H := 520) ⟨c, q, j, J, n, f, rfl, h4, n4, d4⟩ ⟨b, p, l, K, m, e, rfl, h3, n3, d3⟩ (by decide) false hr.out) ?_; clear S; rintro e w21 rfl S H
        replace n3 := n3.hold H; replace n4 := n4.hold H
        clear H; have c0_ := S.c6 0 rfl; go_wp2_with fail
        exact bodyPost_ret (v := .int .i64 0) (by simp [results, Tryz.f64, go_sem]) rfl (⟨⟨0, rfl, fun _ => ⟨HT.out.1, HT.out.2, hz.out⟩⟩, S.below⟩)
set_option maxRecDepth 100000 in
set_option maxHeartbeats 8000000 in
theorem sfit_any (g n : Nat) (C : Nat → SpR) (w : World) (hT : Tab w) (hg : g < w.heap.size) (hn : n ≤ 1000)
    (hs : ∀ j, j < n → (w.cell? ⟨g, j * 6, none⟩ = some (.bool (C j).b) ∧ w.cell? ⟨g, j * 6 + 1, none⟩ = some (.slice (C j).p (C j).ds.length (C j).K) ∧ w.cell? ⟨g, j * 6 + 2, none⟩ = some (.int .i64 (C j).e) ∧ w.cell? ⟨g, j * 6 + 3, none⟩ = some (.bool (C j).c) ∧ w.cell? ⟨g, j * 6 + 4, none⟩ = some (.slice (C j).q (C j).es.length (C j).J) ∧ w.cell? ⟨g, j * 6 + 5, none⟩ = some (.int .i64 (C j).f)) ∧ At .u32 w (C j).p (C j).K (C j).ds ∧ Dig 4294967296 (C j).ds ∧ At .u32 w (C j).q (C j).J (C j).es ∧ Dig 4294967296 (C j).es) :
    Calls Tryz.prog 14 #[.slice (some ⟨g, 0, none⟩) n n] w fun e w' => (∃ b, e = .returned (.bool b) ∧ Hid (b = true → ∀ j, j < n → TriedS (C j))) ∧ Below w.heap.size w w' := by
  have HS := Lib.hid hs
  have HT := Lib.hid hT
  clear hs hT
  have S := St.start w
  go_enter Tryz.func14, Tryz.ntmps14
  go_wp2_with fail
  go_loopw [9] (fun si wr => ∃ k : Nat, k ≤ n ∧ si = .int .i64 k ∧ Hid (∀ j, j < k → TriedS (C j)) ∧ St w wr []) (fun si _ => n - (intOf si).toNat)
  case atStart => exact ⟨0, by omega, rfl, fun j hj => by omega, S⟩
  case round =>
    obtain ⟨k, hk, rfl, hz, S⟩ := hrel
    by_cases hlt : k < n
    · obtain ⟨⟨a0, a1, a2, a3, a4, a5⟩, at1, dd1, at2, dd2⟩ := HS.out k hlt
      replace a0 := (S.below.cell (p := ⟨g, k * 6, none⟩) hg).trans a0
      replace a1 := (S.below.cell (p := ⟨g, k * 6 + 1, none⟩) hg).trans a1
      replace a2 := (S.below.cell (p := ⟨g, k * 6 + 2, none⟩) hg).trans a2
      replace a3 := (S.below.cell (p := ⟨g, k * 6 + 3, none⟩) hg).trans a3
      replace a4 := (S.below.cell (p := ⟨g, k * 6 + 4, none⟩) hg).trans a4
      replace a5 := (S.below.cell (p := ⟨g, k * 6 + 5, none⟩) hg).trans a5
      replace at1 := at1.below S.below (Nat.le_refl _)
      replace at2 := at2.below S.below (Nat.le_refl _)
      have HL := Lib.hid hlt
      have hki : (k : Int) < ((n : Nat) : Int) := by omega
      clear hlt
      obtain ⟨⟨b, c, p, q, ds, es, K, J, e, f⟩, hC⟩ : ∃ z, C k = z := ⟨_, rfl⟩
      have HC := Lib.hid hC
      rw [hC] at a0 a1 a2 a3 a4 a5 at1 dd1 at2 dd2
      clear hC
      dsimp only at a0 a1 a2 a3 a4 a5 at1 dd1 at2 dd2
      obtain ⟨l, hl⟩ : ∃ l, ds.length = l := ⟨_, rfl⟩
      obtain ⟨j, hj⟩ : ∃ l, es.length = l := ⟨_, rfl⟩
      rw [hl] at a1
      rw [hj] at a4
      have HD := Lib.hid (And.intro dd1 (And.intro hl (And.intro dd2 hj)))
      clear dd1 hl dd2 hj
      have H := S.hnew 29 [.bool b, .slice p l K, .int .i64 e, .bool c, .slice q j J, .int .i64 f]
      replace S := S.al 29 [.bool b, .slice p l K, .int .i64 e, .bool c, .slice q j J, .int .i64 f] (wr.heap.size)
      replace at1 := at1.hold H; replace at2 := at2.hold H
      clear H; have c0_ := S.c6 0 rfl
      have H := S.hnew 27 [.bool b, .slice p l K, .int .i64 e, .bool c, .slice q j J, .int .i64 f]
      replace S := S.al 27 [.bool b, .slice p l K, .int .i64 e, .bool c, .slice q j J, .int .i64 f] (wr.heap.size + 1)
      replace at1 := at1.hold H; replace at2 := at2.hold H
      clear H; go_wp2_with fail; clear c0_
      generalize ((wr.alloc (.cells #[.bool b, .slice p l K, .int .i64 e, .bool c, .slice q j J, .int .i64 f] 29)).alloc (.cells #[.bool b, .slice p l K, .int .i64 e, .bool c, .slice q j J, .int .i64 f] 27)) = w21 at S at1 at2 ⊢
      obtain ⟨g4, hg4⟩ : ∃ g, wr.heap.size = g := ⟨_, rfl⟩
      rw [hg4] at S ⊢
      clear hg4 a0 a1 a2 a3 a4 a5
      go_loopw [19] (fun si wr => (si = .int .i64 0 ∧ At .u32 wr p K ds ∧ At .u32 wr q J es ∧ St w wr [(g4, 29, [.bool b, .slice p l K, .int .i64 e, .bool c, .slice q j J, .int .i64 f]), (g4 + 1, 27, [.bool b, .slice p l K, .int .i64 e, .bool c, .slice q j J, .int .i64 f])]) ∨ (si = .int .i64 1 ∧ Hid (l ≤ 10 ∧ (-200 ≤ e ∧ e ≤ 200)) ∧ At .u32 wr p K ds ∧ At .u32 wr q J es ∧ St w wr [(g4, 29, [.bool b, .slice p l K, .int .i64 e, .bool c, .slice q j J, .int .i64 f]), (g4 + 1, 27, [.bool b, .slice p l K, .int .i64 e, .bool c, .slice q j J, .int .i64 f])]) ∨ (si = .int .i64 2 ∧ Hid (l ≤ 10 ∧ (-200 ≤ e ∧ e ≤ 200)) ∧ Hid (j ≤ 10 ∧ (-200 ≤ f ∧ f ≤ 200)) ∧ At .u32 wr p K ds ∧ At .u32 wr q J es ∧ St w wr [(g4, 29, [.bool b, .slice p l K, .int .i64 e, .bool c, .slice q j J, .int .i64 f]), (g4 + 1, 27, [.bool b, .slice p l K, .int .i64 e, .bool c, .slice q j J, .int .i64 f])])) (fun si _ => 2 - (intOf si).toNat)
      case atStart => exact .inl ⟨rfl, at1, at2, S⟩
      case round =>
        clear at1 at2 S
        rcases hrel with ⟨rfl, at1, at2, S⟩ | ⟨rfl, v1, at1, at2, S⟩ | ⟨rfl, v1, v2, at1, at2, S⟩
        ·
          by_cases h20 : 10 < l
          · have h20' : (10 : Int) < ((l : Nat) : Int) := by omega
            have c1_ := S.c6 1 rfl
            have H := S.hnew 27 [.bool b, .slice p l K, .int .i64 e]
            replace S := S.al 27 [.bool b, .slice p l K, .int .i64 e] (wr.heap.size)
            replace at1 := at1.hold H; replace at2 := at2.hold H
            clear H; have c2_ := S.c3 2 rfl; go_wp2_with fail
            go_ret
            first | exact ⟨⟨false, rfl, fun h => by cases h⟩, S.below⟩ | exact ⟨.inl ⟨rfl, fun _ => trivial⟩, S.below⟩ | exact ⟨.inl ⟨rfl, Lib.hid trivial⟩, S.below⟩ | exact ⟨.inl rfl, S.below⟩
          · have h20' : ¬ (10 : Int) < ((l : Nat) : Int) := by omega
            by_cases h21 : 200 < e
            ·
              have c1_ := S.c6 1 rfl
              have H := S.hnew 27 [.bool b, .slice p l K, .int .i64 e]
              replace S := S.al 27 [.bool b, .slice p l K, .int .i64 e] (wr.heap.size)
              replace at1 := at1.hold H; replace at2 := at2.hold H
              clear H; have c2_ := S.c3 2 rfl; go_wp2_with fail
              go_ret
              first | exact ⟨⟨false, rfl, fun h => by cases h⟩, S.below⟩ | exact ⟨.inl ⟨rfl, fun _ => trivial⟩, S.below⟩ | exact ⟨.inl ⟨rfl, Lib.hid trivial⟩, S.below⟩ | exact ⟨.inl rfl, S.below⟩
            · by_cases h22 : e < -200
              ·
                have c1_ := S.c6 1 rfl
                have H := S.hnew 27 [.bool b, .slice p l K, .int .i64 e]
                replace S := S.al 27 [.bool b, .slice p l K, .int .i64 e] (wr.heap.size)
                replace at1 := at1.hold H; replace at2 := at2.hold H
                clear H; have c2_ := S.c3 2 rfl; go_wp2_with fail
                go_ret
                first | exact ⟨⟨false, rfl, fun h => by cases h⟩, S.below⟩ | exact ⟨.inl ⟨rfl, fun _ => trivial⟩, S.below⟩ | exact ⟨.inl ⟨rfl, Lib.hid trivial⟩, S.below⟩ | exact ⟨.inl rfl, S.below⟩
              · have v1 : Hid (l ≤ 10 ∧ (-200 ≤ e ∧ e ≤ 200)) := Lib.hid (show l ≤ 10 ∧ (-200 ≤ e ∧ e ≤ 200) by omega)
                have c1_ := S.c6 1 rfl
                have H := S.hnew 27 [.bool b, .slice p l K, .int .i64 e]
                replace S := S.al 27 [.bool b, .slice p l K, .int .i64 e] (wr.heap.size)
                replace at1 := at1.hold H; replace at2 := at2.hold H
                clear H; have c2_ := S.c3 2 rfl; go_wp2_with fail
                replace S := S.take 2 (L := [(g4, 29, [.bool b, .slice p l K, .int .i64 e, .bool c, .slice q j J, .int .i64 f]), (g4 + 1, 27, [.bool b, .slice p l K, .int .i64 e, .bool c, .slice q j J, .int .i64 f])]) rfl
                go_roundw
                case rel => exact .inr (.inl ⟨rfl, v1, at1, at2, S⟩)
                case measure => simp [intOf]
        ·
          by_cases h20 : 10 < j
          · have h20' : (10 : Int) < ((j : Nat) : Int) := by omega
            have c1_ := S.c6 1 rfl
            have H := S.hnew 27 [.bool c, .slice q j J, .int .i64 f]
            replace S := S.al 27 [.bool c, .slice q j J, .int .i64 f] (wr.heap.size)
            replace at1 := at1.hold H; replace at2 := at2.hold H
            clear H; have c2_ := S.c3 2 rfl; go_wp2_with fail
            go_ret
            first | exact ⟨⟨false, rfl, fun h => by cases h⟩, S.below⟩ | exact ⟨.inl ⟨rfl, fun _ => trivial⟩, S.below⟩ | exact ⟨.inl ⟨rfl, Lib.hid trivial⟩, S.below⟩ | exact ⟨.inl rfl, S.below⟩
          · have h20' : ¬ (10 : Int) < ((j : Nat) : Int) := by omega
            by_cases h21 : 200 < f
            ·
              have c1_ := S.c6 1 rfl
              have H := S.hnew 27 [.bool c, .slice q j J, .int .i64 f]
              replace S := S.al 27 [.bool c, .slice q j J, .int .i64 f] (wr.heap.size)
              replace at1 := at1.hold H; replace at2 := at2.hold H
              clear H; have c2_ := S.c3 2 rfl; go_wp2_with fail
              go_ret
              first | exact ⟨⟨false, rfl, fun h => by cases h⟩, S.below⟩ | exact ⟨.inl ⟨rfl, fun _ => trivial⟩, S.below⟩ | exact ⟨.inl ⟨rfl, Lib.hid trivial⟩, S.below⟩ | exact ⟨.inl rfl, S.below⟩
            · by_cases h22 : f < -200
              ·
                have c1_ := S.c6 1 rfl
                have H := S.hnew 27 [.bool c, .slice q j J, .int .i64 f]
                replace S := S.al 27 [.bool c, .slice q j J, .int .i64 f] (wr.heap.size)
                replace at1 := at1.hold H; replace at2 := at2.hold H
                clear H; have c2_ := S.c3 2 rfl; go_wp2_with fail
                go_ret
                first | exact ⟨⟨false, rfl, fun h => by cases h⟩, S.below⟩ | exact ⟨.inl ⟨rfl, fun _ => trivial⟩, S.below⟩ | exact ⟨.inl ⟨rfl, Lib.hid trivial⟩, S.below⟩ | exact ⟨.inl rfl, S.below⟩
              · have v2 : Hid (j ≤ 10 ∧ (-200 ≤ f ∧ f ≤ 200)) := Lib.hid (show j ≤ 10 ∧ (-200 ≤ f ∧ f ≤ 200) by omega)
                have c1_ := S.c6 1 rfl
                have H := S.hnew 27 [.bool c, .slice q j J, .int .i64 f]
                replace S := S.al 27 [.bool c, .slice q j J, .int .i64 f] (wr.heap.size)
                replace at1 := at1.hold H; replace at2 := at2.hold H
                clear H; have c2_ := S.c3 2 rfl; go_wp2_with fail
                replace S := S.take 2 (L := [(g4, 29, [.bool b, .slice p l K, .int .i64 e, .bool c, .slice q j J, .int .i64 f]), (g4 + 1, 27, [.bool b, .slice p l K, .int .i64 e, .bool c, .slice q j J, .int .i64 f])]) rfl
                go_roundw
                case rel => exact .inr (.inr ⟨rfl, v1, v2, at1, at2, S⟩)
                case measure => simp [intOf]
        ·
          have c0_ := S.c6 0 rfl; go_wp2_with fail; clear c0_
          refine S.cl (scheck_raw b c p q K J l j ds es e f _ (HT.out.below S.below) at1 HD.out.1 HD.out.2.1 at2 HD.out.2.2.1 HD.out.2.2.2 v1.out.1 v2.out.1 v1.out.2 v2.out.2) ?_; clear S; rintro e w41 ⟨r, rfl, hr⟩ S H
          replace at1 := at1.hold H; replace at2 := at2.hold H
          clear H; have c0_ := S.c6 0 rfl
          by_cases h0 : r = 0
          · have h0' : (r != 0) = false := by rw [h0]; rfl
            have hv := hr.out h0
            rw [← HC.out] at hv
            have HV := Lib.hid hv
            clear h0 hr hv; go_wp2_with fail
            replace S := S.take 0 (L := []) rfl
            go_roundw
            case rel =>
              refine ⟨k + 1, HL.out, by go_num, fun j hj => ?_, S⟩
              by_cases hjk : j = k
              · rw [hjk]; exact HV.out
              · exact hz.out j (by omega)
            case measure => have := HL.out; simp [intOf]; omega
          · have h0' : (r != 0) = true := by simpa using h0
            clear h0 hr; go_wp2_with fail
            go_ret
            first | exact ⟨⟨false, rfl, fun h => by cases h⟩, S.below⟩ | exact ⟨.inl ⟨rfl, fun _ => trivial⟩, S.below⟩ | exact ⟨.inl ⟨rfl, Lib.hid trivial⟩, S.below⟩ | exact ⟨.inl rfl, S.below⟩
    · have hge : ¬ (k : Int) < ((n : Nat) : Int) := by omega
      have HZ : ∀ j, j < n → TriedS (C j) := fun j hj => hz.out j (by omega)
      have HZ := Lib.hid HZ
      clear hlt
      go_wp2
      go_ret
      first | exact ⟨⟨true, rfl, fun _ => HZ.out⟩, S.below⟩ | exact ⟨.inr ⟨rfl, HZ⟩, S.below⟩ | exact ⟨.inr ⟨rfl, fun _ => HZ.out⟩, S.below⟩ | exact ⟨.inr rfl, S.below⟩
section
variable {w W : World} {L : List (Nat × TypeId × List Value)} {b : Nat} {t : TypeId} {b1 b2 b3 b4 b5 b6 : Bool} {p1 p2 p3 p4 p5 p6 : Option Addr} {l1 l2 l3 l4 l5 l6 K1 K2 K3 K4 K5 K6 : Nat} {e1 e2 e3 e4 e5 e6 : Int} {ds1 ds2 ds3 ds4 ds5 ds6 : List Nat}
def SpAt (w : World) (g j : Nat) (z : SpR) : Prop := (w.cell? ⟨g, j * 6, none⟩ = some (.bool z.b) ∧ w.cell? ⟨g, j * 6 + 1, none⟩ = some (.slice z.p z.ds.length z.K) ∧ w.cell? ⟨g, j * 6 + 2, none⟩ = some (.int .i64 z.e) ∧ w.cell? ⟨g, j * 6 + 3, none⟩ = some (.bool z.c) ∧ w.cell? ⟨g, j * 6 + 4, none⟩ = some (.slice z.q z.es.length z.J) ∧ w.cell? ⟨g, j * 6 + 5, none⟩ = some (.int .i64 z.f)) ∧ At .u32 w z.p z.K z.ds ∧ Dig 4294967296 z.ds ∧ At .u32 w z.q z.J z.es ∧ Dig 4294967296 z.es
end
theorem sfit_at (g n : Nat) (C : Nat → SpR) (w : World) (hT : Tab w) (hg : g < w.heap.size) (hn : n ≤ 1000) (hs : ∀ j, j < n → SpAt w g j (C j)) :
    Calls Tryz.prog 14 #[.slice (some ⟨g, 0, none⟩) n n] w fun e w' => (∃ b, e = .returned (.bool b) ∧ Hid (b = true → ∀ j, j < n → TriedS (C j))) ∧ Below w.heap.size w w' := sfit_any g n C w hT hg hn hs
theorem raw_num {e : Int} {b : Bool} {ds : List Nat} {l : Nat} {p : Option Addr} {K : Nat} {w : World} {x : Rat} (hx : rawQ b ds e = x) (h : TriedD 10 200 b ds e) (hd : Dig 4294967296 ds) (hl : ds.length = l) (hat : At .u32 w p K ds) :
    ∃ m : Int, Hid (negB m = b) ∧ IsNat w (.slice p l K) m.natAbs ∧ Hid (DyF m e x 200 520) := by
  subst hx
  exact raw_dy h hd hl hat (by decide)
end Go.Proofs.YtcdmojefheipoaaGreatDoor
