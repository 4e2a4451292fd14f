/-
  girdlelaw05.DyadNear, as a walk: whatever the ratio and the bits, it returns true.
-/
import Derived.Test.YtkokimlgofimmaaGreatDoorM13
import Derived.Test.YtkokimlgofimmaaGreatDoorM21
import Derived.Test.YtkokimlgofimmaaGreatDoorM25
import Derived.Test.YtkokimlgofimmaaGreatDoorM33

namespace Go.Proofs.YtkokimlgofimmaaGreatDoor
open Go.RowKit

theorem rb_pow (n : Nat) (hn : n ≤ 4094) : RB ((((2 ^ n : Nat) : Int) : Int) : Rat) 128 :=
  ⟨by show (((2 ^ n : Nat) : Int)).natAbs < NB 128; rw [Int.natAbs_natCast]; exact pb_nb (n := n + 1) (by rw [PB_is]; exact Nat.pow_lt_pow_right (by decide) (by omega)) (by omega), by show 1 < NB 128; exact pb_nb (n := 1) (by rw [PB_is]; decide) (by decide)⟩
theorem cmp_le {x y : Rat} (h : x ≤ y) : ∃ g : Int, g ≤ 0 ∧ cmpR x y = g := by
  rcases rat_three x y with k | k | k
  · exact ⟨-1, by decide, cmpR_lt k⟩
  · subst k; exact ⟨0, by decide, cmpR_eq x⟩
  · exact absurd h (Rat.not_le.2 k)
theorem cmp_two {x y z : Rat} (h1 : x ≤ z) (h2 : z ≤ y) (h3 : x = z ↔ y = z) : ∃ c d : Int, ((c = 0 ∧ d = 0) ∨ (c = -1 ∧ d = 1)) ∧ cmpR x z = c ∧ cmpR y z = d := by
  by_cases h : x = z
  · have h' := h3.1 h
    subst h; subst h'
    exact ⟨0, 0, .inl ⟨rfl, rfl⟩, cmpR_eq _, cmpR_eq _⟩
  · have h' : y ≠ z := fun e => h (h3.2 e)
    exact ⟨-1, 1, .inr ⟨rfl, rfl⟩, cmpR_lt (by grind), cmpR_gt (by grind)⟩

set_option maxRecDepth 100000 in
set_option maxHeartbeats 16000000 in
theorem dyadNear_any (bA : Bool) (pA qA : Option Addr) (KA JA : Nat) (dsA esA : List Nat) (n : Int) (w : World) (hT : Tab w) (atA : At .u32 w pA KA dsA) (ctA : At .u32 w qA JA esA) (ddA : Dig 4294967296 dsA) (deA : Dig 4294967296 esA) (hn0 : -9223372036854775808 ≤ n) (hn1 : n ≤ 9223372036854775807) :
    Calls Tryz.prog 4 #[.agg #[.bool bA, .slice pA dsA.length KA, .slice qA esA.length JA], .int .i64 n] w fun e w' => e = .returned (.bool true) ∧ Below w.heap.size w w' := by
  have HT := Lib.hid hT
  have HD := Lib.hid (And.intro ddA deA)
  obtain ⟨lA, hlA⟩ : ∃ l, dsA.length = l := ⟨_, rfl⟩
  obtain ⟨jA, hjA⟩ : ∃ l, esA.length = l := ⟨_, rfl⟩
  have HL := Lib.hid (And.intro hlA hjA)
  rw [hlA, hjA]
  clear hT ddA deA hlA hjA
  have S := (St.start w).alloc 31 [.bool bA, .slice pA lA KA, .slice qA jA JA] (w.heap.size)
  try simp only [List.cons_append, List.nil_append] at S
  replace atA := atA.hold S.hold
  replace ctA := ctA.hold S.hold
  have c0_0 := S.c 0 0 rfl rfl
  have c0_1 := S.c 0 1 rfl rfl
  have c0_2 := S.c 0 2 rfl rfl
  go_enter Tryz.func4, Tryz.ntmps4
  go_wp2_with fail
  clear c0_0 c0_1 c0_2
  refine (S.call (halves_any _ (HT.out.below S.below))).mono ?_
  clear S
  rintro e w1 ⟨rfl, S, H⟩
  replace atA := atA.hold H
  replace ctA := ctA.hold H
  clear H
  have c0_0 := S.c 0 0 rfl rfl
  have c0_1 := S.c 0 1 rfl rfl
  have c0_2 := S.c 0 2 rfl rfl
  by_cases h10 : 10 < lA
  · have h10' : (10 : Int) < (lA : Int) := by omega
    go_wp2_with fail
    exact bodyPost_ret (v := .bool true) (by simp [results, Tryz.f4, go_sem]) rfl (⟨rfl, S.below⟩)
  · have h10' : ¬ (10 : Int) < (lA : Int) := by omega
    by_cases h11 : 10 < jA
    · have h11' : (10 : Int) < (jA : Int) := by omega
      go_wp2_with fail
      exact bodyPost_ret (v := .bool true) (by simp [results, Tryz.f4, go_sem]) rfl (⟨rfl, S.below⟩)
    · have h11' : ¬ (10 : Int) < (jA : Int) := by omega
      go_wp2_with fail
      clear c0_0 c0_1 c0_2
      refine (S.call (rcheck_raw bA pA qA KA JA lA jA dsA esA _ atA ctA HD.out.1 HD.out.2 HL.out.1 HL.out.2 (by omega) (by omega))).mono ?_
      clear S
      rintro e w2 ⟨⟨c1, rfl, hc1⟩, S, H⟩
      replace atA := atA.hold H
      replace ctA := ctA.hold H
      clear H
      have c0_0 := S.c 0 0 rfl rfl
      have c0_1 := S.c 0 1 rfl rfl
      have c0_2 := S.c 0 2 rfl rfl
      by_cases h0 : c1 = 0
      · have h0' : (c1 != 0) = false := by rw [h0]; rfl
        have TR : TriedR 10 bA dsA esA := ⟨by rw [HL.out.1]; omega, by rw [HL.out.2]; omega, hc1.out h0⟩
        obtain ⟨zA, hA, rA, nA, dA⟩ := tried_rat TR HD.out.1 HD.out.2 HL.out.1 HL.out.2 atA ctA
        have RA := Lib.hid rA
        clear atA ctA
        clear TR rA h0 hc1 h10 h11
        by_cases hb1 : n < 2
        ·
          clear c0_0 c0_1 c0_2
          have c0_0 := S.c 0 0 rfl rfl
          have c0_1 := S.c 0 1 rfl rfl
          have c0_2 := S.c 0 2 rfl rfl
          go_wp2_with fail
          clear c0_0 c0_1 c0_2
          refine (S.call (dnear_bad ⟨bA, pA, lA, KA, qA, jA, JA, rfl, hA, nA, dA⟩ n (.inl hb1) false)).mono ?_
          clear S
          rintro e w3 ⟨rfl, S, H⟩
          replace nA := nA.hold H
          replace dA := dA.hold H
          clear H
          have c0_0 := S.c 0 0 rfl rfl
          have c0_1 := S.c 0 1 rfl rfl
          have c0_2 := S.c 0 2 rfl rfl
          have H := S.hnew 27 [.bool false, .slice none 0 0, .int .i64 0]
          replace S := S.alloc 27 [.bool false, .slice none 0 0, .int .i64 0] (w3.heap.size)
          try simp only [List.cons_append, List.nil_append] at S
          replace nA := nA.hold H
          replace dA := dA.hold H
          clear H
          clear c0_0 c0_1 c0_2
          have c0_0 := S.c 0 0 rfl rfl
          have c0_1 := S.c 0 1 rfl rfl
          have c0_2 := S.c 0 2 rfl rfl
          go_wp2_with fail
          clear c0_0 c0_1 c0_2
          refine (S.call (dnear_bad ⟨bA, pA, lA, KA, qA, jA, JA, rfl, hA, nA, dA⟩ n (.inl hb1) true)).mono ?_
          clear S
          rintro e w4 ⟨rfl, S, H⟩
          replace nA := nA.hold H
          replace dA := dA.hold H
          clear H
          have c0_0 := S.c 0 0 rfl rfl
          have c0_1 := S.c 0 1 rfl rfl
          have c0_2 := S.c 0 2 rfl rfl
          have H := S.hnew 27 [.bool false, .slice none 0 0, .int .i64 0]
          replace S := S.alloc 27 [.bool false, .slice none 0 0, .int .i64 0] (w4.heap.size)
          try simp only [List.cons_append, List.nil_append] at S
          replace nA := nA.hold H
          replace dA := dA.hold H
          clear H
          clear c0_0 c0_1 c0_2
          have c0_0 := S.c 0 0 rfl rfl
          have c0_1 := S.c 0 1 rfl rfl
          have c0_2 := S.c 0 2 rfl rfl
          go_wp2_with fail
          exact bodyPost_ret (v := .bool true) (by simp [results, Tryz.f4, go_sem]) rfl (⟨rfl, S.below⟩)
        · by_cases hb2 : 4096 < n
          ·
            clear c0_0 c0_1 c0_2
            have c0_0 := S.c 0 0 rfl rfl
            have c0_1 := S.c 0 1 rfl rfl
            have c0_2 := S.c 0 2 rfl rfl
            go_wp2_with fail
            clear c0_0 c0_1 c0_2
            refine (S.call (dnear_bad ⟨bA, pA, lA, KA, qA, jA, JA, rfl, hA, nA, dA⟩ n (.inr hb2) false)).mono ?_
            clear S
            rintro e w3 ⟨rfl, S, H⟩
            replace nA := nA.hold H
            replace dA := dA.hold H
            clear H
            have c0_0 := S.c 0 0 rfl rfl
            have c0_1 := S.c 0 1 rfl rfl
            have c0_2 := S.c 0 2 rfl rfl
            have H := S.hnew 27 [.bool false, .slice none 0 0, .int .i64 0]
            replace S := S.alloc 27 [.bool false, .slice none 0 0, .int .i64 0] (w3.heap.size)
            try simp only [List.cons_append, List.nil_append] at S
            replace nA := nA.hold H
            replace dA := dA.hold H
            clear H
            clear c0_0 c0_1 c0_2
            have c0_0 := S.c 0 0 rfl rfl
            have c0_1 := S.c 0 1 rfl rfl
            have c0_2 := S.c 0 2 rfl rfl
            go_wp2_with fail
            clear c0_0 c0_1 c0_2
            refine (S.call (dnear_bad ⟨bA, pA, lA, KA, qA, jA, JA, rfl, hA, nA, dA⟩ n (.inr hb2) true)).mono ?_
            clear S
            rintro e w4 ⟨rfl, S, H⟩
            replace nA := nA.hold H
            replace dA := dA.hold H
            clear H
            have c0_0 := S.c 0 0 rfl rfl
            have c0_1 := S.c 0 1 rfl rfl
            have c0_2 := S.c 0 2 rfl rfl
            have H := S.hnew 27 [.bool false, .slice none 0 0, .int .i64 0]
            replace S := S.alloc 27 [.bool false, .slice none 0 0, .int .i64 0] (w4.heap.size)
            try simp only [List.cons_append, List.nil_append] at S
            replace nA := nA.hold H
            replace dA := dA.hold H
            clear H
            clear c0_0 c0_1 c0_2
            have c0_0 := S.c 0 0 rfl rfl
            have c0_1 := S.c 0 1 rfl rfl
            have c0_2 := S.c 0 2 rfl rfl
            go_wp2_with fail
            exact bodyPost_ret (v := .bool true) (by simp [results, Tryz.f4, go_sem]) rfl (⟨rfl, S.below⟩)
          · obtain ⟨k, hk⟩ : ∃ k : Nat, (k : Int) = n := ⟨n.toNat, by omega⟩
            subst hk
            have hk2 : 2 ≤ k ∧ k ≤ 4096 := by omega
            obtain ⟨yl, yh, f1, f2, f3, f4, CL, CH⟩ := dnear_both RA.out k hk2.1 hk2.2 (by omega)
            obtain ⟨c, d, hcd, hc, hd⟩ := cmp_two f1 f2 f3
            obtain ⟨gp, hgp⟩ : ∃ g, yh - yl = g := ⟨_, rfl⟩
            obtain ⟨P, hP⟩ : ∃ P, 2 ^ (k - 2) = P := ⟨_, rfl⟩
            obtain ⟨wd, hwd⟩ : ∃ z, gp * (((P : Nat) : Int) : Rat) = z := ⟨_, rfl⟩
            rw [hgp, hP, hwd] at f4
            obtain ⟨g, hg0, hg⟩ := cmp_le f4
            have hwk : IntKind.i64.wrap ((k : Int) - 2) = ((k - 2 : Nat) : Int) := by rw [wrap_int (by omega) (by omega)]; omega
            have hPm : P < maxN := by rw [← hP]; exact pb_max (n := k - 2 + 1) (by rw [PB_is]; exact Nat.pow_lt_pow_right (by decide) (by omega)) (by omega)
            have HK := Lib.hid hk2
            have HCL := Lib.hid CL
            have HCH := Lib.hid CH
            have HV := Lib.hid (And.intro hc (And.intro hd (And.intro hgp (And.intro hwd (And.intro hg (And.intro hP (And.intro hPm (And.intro (show RB (((P : Nat) : Int) : Rat) 128 by rw [← hP]; exact rb_pow (k - 2) (by omega)) (show k - 2 ≤ 9223372036854775807 by omega)))))))))
            clear hk2 f1 f2 f3 f4 CL CH hc hd hgp hP hwd hg hPm hn0 hn1
            clear c0_0 c0_1 c0_2
            have c0_0 := S.c 0 0 rfl rfl
            have c0_1 := S.c 0 1 rfl rfl
            have c0_2 := S.c 0 2 rfl rfl
            go_wp2_with fail
            clear c0_0 c0_1 c0_2
            refine (S.call (HCL.out _ _ (HT.out.below S.below) ⟨bA, pA, lA, KA, qA, jA, JA, rfl, hA, nA, dA⟩)).mono ?_
            clear S
            rintro e w3 ⟨⟨_, rfl, bl, pl, ll, Kl, ml, el, rfl, hl, nl, dl, fl⟩, S, H⟩
            replace nA := nA.hold H
            replace dA := dA.hold H
            clear H
            have c0_0 := S.c 0 0 rfl rfl
            have c0_1 := S.c 0 1 rfl rfl
            have c0_2 := S.c 0 2 rfl rfl
            have dl2 := Lib.hid (dl.out.mono (L' := 4736) (H' := 323) (by have := HK.out.2; omega) (by decide))
            have H := S.hnew 27 [.bool bl, .slice pl ll Kl, .int .i64 el]
            replace S := S.alloc 27 [.bool bl, .slice pl ll Kl, .int .i64 el] (w3.heap.size)
            try simp only [List.cons_append, List.nil_append] at S
            replace nA := nA.hold H
            replace dA := dA.hold H
            replace nl := nl.hold H
            clear H
            clear c0_0 c0_1 c0_2
            have c0_0 := S.c 0 0 rfl rfl
            have c0_1 := S.c 0 1 rfl rfl
            have c0_2 := S.c 0 2 rfl rfl
            go_wp2_with fail
            generalize (.tuple #[.agg #[.bool bl, .slice pl ll Kl, .int .i64 el], .int .i64 0] : Value) = g1
            clear c0_0 c0_1 c0_2
            refine (S.call (HCH.out _ _ (HT.out.below S.below) ⟨bA, pA, lA, KA, qA, jA, JA, rfl, hA, nA, dA⟩)).mono ?_
            clear S
            rintro e w4 ⟨⟨_, rfl, bh, ph, lh, Kh, mh, eh, rfl, hh, nh, dh, fh⟩, S, H⟩
            replace nA := nA.hold H
            replace dA := dA.hold H
            replace nl := nl.hold H
            clear H
            have c0_0 := S.c 0 0 rfl rfl
            have c0_1 := S.c 0 1 rfl rfl
            have c0_2 := S.c 0 2 rfl rfl
            have dh2 := Lib.hid (dh.out.mono (L' := 4736) (H' := 323) (by have := HK.out.2; omega) (by decide))
            have fl2 := Lib.hid (show decide ((nbits ml.natAbs : Int) ≤ (k : Int)) = true from decide_eq_true (by have := fl.out; omega))
            have fh2 := Lib.hid (show decide ((nbits mh.natAbs : Int) ≤ (k : Int)) = true from decide_eq_true (by have := fh.out; omega))
            have RL := Lib.hid (rb_dyad dl2.out (k := 159) (by decide) (by decide))
            have RH := Lib.hid (rb_dyad dh2.out (k := 159) (by decide) (by decide))
            have H := S.hnew 27 [.bool bh, .slice ph lh Kh, .int .i64 eh]
            replace S := S.alloc 27 [.bool bh, .slice ph lh Kh, .int .i64 eh] (w4.heap.size)
            try simp only [List.cons_append, List.nil_append] at S
            replace nA := nA.hold H
            replace dA := dA.hold H
            replace nl := nl.hold H
            replace nh := nh.hold H
            clear H
            clear c0_0 c0_1 c0_2
            have c1_0 := S.c 1 0 rfl rfl
            have c1_1 := S.c 1 1 rfl rfl
            have c1_2 := S.c 1 2 rfl rfl
            go_wp2_with fail
            generalize (.tuple #[.agg #[.bool bh, .slice ph lh Kh, .int .i64 eh], .int .i64 0] : Value) = g2
            clear c1_0 c1_1 c1_2
            refine (S.call (dfew_any nl (dl2.out.max (by decide)) (k : Int) true fl2.out)).mono ?_
            clear S
            rintro e w5 ⟨rfl, S, H⟩
            replace nA := nA.hold H
            replace dA := dA.hold H
            replace nl := nl.hold H
            replace nh := nh.hold H
            clear H
            have c1_0 := S.c 1 0 rfl rfl
            have c1_1 := S.c 1 1 rfl rfl
            have c1_2 := S.c 1 2 rfl rfl
            clear c1_0 c1_1 c1_2
            have c2_0 := S.c 2 0 rfl rfl
            have c2_1 := S.c 2 1 rfl rfl
            have c2_2 := S.c 2 2 rfl rfl
            go_wp2_with fail
            clear c2_0 c2_1 c2_2
            refine (S.call (dfew_any nh (dh2.out.max (by decide)) (k : Int) true fh2.out)).mono ?_
            clear S
            rintro e w6 ⟨rfl, S, H⟩
            replace nA := nA.hold H
            replace dA := dA.hold H
            replace nl := nl.hold H
            replace nh := nh.hold H
            clear H
            have c2_0 := S.c 2 0 rfl rfl
            have c2_1 := S.c 2 1 rfl rfl
            have c2_2 := S.c 2 2 rfl rfl
            rcases hcd with ⟨rfl, rfl⟩ | ⟨rfl, rfl⟩
            all_goals
              clear c2_0 c2_1 c2_2
              have c0_0 := S.c 0 0 rfl rfl
              have c0_1 := S.c 0 1 rfl rfl
              have c0_2 := S.c 0 2 rfl rfl
              have c1_0 := S.c 1 0 rfl rfl
              have c1_1 := S.c 1 1 rfl rfl
              have c1_2 := S.c 1 2 rfl rfl
              go_wp2_with fail
              clear c0_0 c0_1 c0_2 c1_0 c1_1 c1_2
              refine (S.call (dcmp_any (k1 := 159) ⟨bl, pl, ll, Kl, ml, el, rfl, hl, nl, dl2⟩ ⟨bA, pA, lA, KA, qA, jA, JA, rfl, hA, nA, dA⟩ (by decide) (by decide) RA.out (by decide) _ HV.out.1)).mono ?_
              clear S
              rintro e w7 ⟨rfl, S, H⟩
              replace nA := nA.hold H
              replace dA := dA.hold H
              replace nl := nl.hold H
              replace nh := nh.hold H
              clear H
              have c0_0 := S.c 0 0 rfl rfl
              have c0_1 := S.c 0 1 rfl rfl
              have c0_2 := S.c 0 2 rfl rfl
              have c1_0 := S.c 1 0 rfl rfl
              have c1_1 := S.c 1 1 rfl rfl
              have c1_2 := S.c 1 2 rfl rfl
              clear c0_0 c0_1 c0_2 c1_0 c1_1 c1_2
              have c0_0 := S.c 0 0 rfl rfl
              have c0_1 := S.c 0 1 rfl rfl
              have c0_2 := S.c 0 2 rfl rfl
              have c2_0 := S.c 2 0 rfl rfl
              have c2_1 := S.c 2 1 rfl rfl
              have c2_2 := S.c 2 2 rfl rfl
              go_wp2_with fail
              clear c0_0 c0_1 c0_2 c2_0 c2_1 c2_2
              refine (S.call (dcmp_any (k1 := 159) ⟨bh, ph, lh, Kh, mh, eh, rfl, hh, nh, dh2⟩ ⟨bA, pA, lA, KA, qA, jA, JA, rfl, hA, nA, dA⟩ (by decide) (by decide) RA.out (by decide) _ HV.out.2.1)).mono ?_
              clear S
              rintro e w8 ⟨rfl, S, H⟩
              replace nA := nA.hold H
              replace dA := dA.hold H
              replace nl := nl.hold H
              replace nh := nh.hold H
              clear H
              have c0_0 := S.c 0 0 rfl rfl
              have c0_1 := S.c 0 1 rfl rfl
              have c0_2 := S.c 0 2 rfl rfl
              have c2_0 := S.c 2 0 rfl rfl
              have c2_1 := S.c 2 1 rfl rfl
              have c2_2 := S.c 2 2 rfl rfl
              clear c0_0 c0_1 c0_2 c2_0 c2_1 c2_2
              have c1_0 := S.c 1 0 rfl rfl
              have c1_1 := S.c 1 1 rfl rfl
              have c1_2 := S.c 1 2 rfl rfl
              go_wp2_with fail
              clear c1_0 c1_1 c1_2
              refine (S.call (dratio_any ⟨bl, pl, ll, Kl, ml, el, rfl, hl, nl, dl2⟩ (by decide))).mono ?_
              clear S
              rintro e w9 ⟨⟨_, rfl, bx, px, lx, Kx, qx, jx, Jx, rfl, hx, nx, dx⟩, S, H⟩
              replace nA := nA.hold H
              replace dA := dA.hold H
              replace nl := nl.hold H
              replace nh := nh.hold H
              clear H
              have c1_0 := S.c 1 0 rfl rfl
              have c1_1 := S.c 1 1 rfl rfl
              have c1_2 := S.c 1 2 rfl rfl
              have H := S.hnew 31 [.bool bx, .slice px lx Kx, .slice qx jx Jx]
              replace S := S.alloc 31 [.bool bx, .slice px lx Kx, .slice qx jx Jx] (w9.heap.size)
              try simp only [List.cons_append, List.nil_append] at S
              replace nA := nA.hold H
              replace dA := dA.hold H
              replace nl := nl.hold H
              replace nh := nh.hold H
              replace nx := nx.hold H
              replace dx := dx.hold H
              clear H
              clear c1_0 c1_1 c1_2
              have c2_0 := S.c 2 0 rfl rfl
              have c2_1 := S.c 2 1 rfl rfl
              have c2_2 := S.c 2 2 rfl rfl
              go_wp2_with fail
              generalize (.tuple #[.agg #[.bool bx, .slice px lx Kx, .slice qx jx Jx], .int .i64 0] : Value) = g3
              clear c2_0 c2_1 c2_2
              refine (S.call (dratio_any ⟨bh, ph, lh, Kh, mh, eh, rfl, hh, nh, dh2⟩ (by decide))).mono ?_
              clear S
              rintro e w10 ⟨⟨_, rfl, bv, pv, lv, Kv, qv, jv, Jv, rfl, hv, nv, dv⟩, S, H⟩
              replace nA := nA.hold H
              replace dA := dA.hold H
              replace nl := nl.hold H
              replace nh := nh.hold H
              replace nx := nx.hold H
              replace dx := dx.hold H
              clear H
              have c2_0 := S.c 2 0 rfl rfl
              have c2_1 := S.c 2 1 rfl rfl
              have c2_2 := S.c 2 2 rfl rfl
              have H := S.hnew 31 [.bool bv, .slice pv lv Kv, .slice qv jv Jv]
              replace S := S.alloc 31 [.bool bv, .slice pv lv Kv, .slice qv jv Jv] (w10.heap.size)
              try simp only [List.cons_append, List.nil_append] at S
              replace nA := nA.hold H
              replace dA := dA.hold H
              replace nl := nl.hold H
              replace nh := nh.hold H
              replace nx := nx.hold H
              replace dx := dx.hold H
              replace nv := nv.hold H
              replace dv := dv.hold H
              clear H
              clear c2_0 c2_1 c2_2
              have c3_0 := S.c 3 0 rfl rfl
              have c3_1 := S.c 3 1 rfl rfl
              have c3_2 := S.c 3 2 rfl rfl
              have c4_0 := S.c 4 0 rfl rfl
              have c4_1 := S.c 4 1 rfl rfl
              have c4_2 := S.c 4 2 rfl rfl
              go_wp2_with fail
              generalize (.tuple #[.agg #[.bool bv, .slice pv lv Kv, .slice qv jv Jv], .int .i64 0] : Value) = g4
              clear c3_0 c3_1 c3_2 c4_0 c4_1 c4_2
              refine (S.call (rsub_any ⟨bv, pv, lv, Kv, qv, jv, Jv, rfl, hv, nv, dv⟩ ⟨bx, px, lx, Kx, qx, jx, Jx, rfl, hx, nx, dx⟩ RH.out RL.out (by decide) gp HV.out.2.2.1)).mono ?_
              clear S
              rintro e w11 ⟨⟨_, rfl, bg, pg, lg, Kg, qg, jg, Jg, rfl, hg, ng, dg⟩, S, H⟩
              replace nA := nA.hold H
              replace dA := dA.hold H
              replace nl := nl.hold H
              replace nh := nh.hold H
              replace nx := nx.hold H
              replace dx := dx.hold H
              replace nv := nv.hold H
              replace dv := dv.hold H
              clear H
              have c3_0 := S.c 3 0 rfl rfl
              have c3_1 := S.c 3 1 rfl rfl
              have c3_2 := S.c 3 2 rfl rfl
              have c4_0 := S.c 4 0 rfl rfl
              have c4_1 := S.c 4 1 rfl rfl
              have c4_2 := S.c 4 2 rfl rfl
              have RG := Lib.hid (show RB gp 319 from HV.out.2.2.1 ▸ rb_sub RH.out RL.out)
              have H := S.hnew 31 [.bool bg, .slice pg lg Kg, .slice qg jg Jg]
              replace S := S.alloc 31 [.bool bg, .slice pg lg Kg, .slice qg jg Jg] (w11.heap.size)
              try simp only [List.cons_append, List.nil_append] at S
              replace nA := nA.hold H
              replace dA := dA.hold H
              replace nl := nl.hold H
              replace nh := nh.hold H
              replace nx := nx.hold H
              replace dx := dx.hold H
              replace nv := nv.hold H
              replace dv := dv.hold H
              replace ng := ng.hold H
              replace dg := dg.hold H
              clear H
              clear c3_0 c3_1 c3_2 c4_0 c4_1 c4_2
              go_wp2_with fail
              generalize (.tuple #[.agg #[.bool bg, .slice pg lg Kg, .slice qg jg Jg], .int .i64 0] : Value) = g5
              refine (S.call (of_any 1 _ (by decide))).mono ?_
              clear S
              rintro e w12 ⟨⟨vo, rfl, no⟩, S, H⟩
              replace nA := nA.hold H
              replace dA := dA.hold H
              replace nl := nl.hold H
              replace nh := nh.hold H
              replace nx := nx.hold H
              replace dx := dx.hold H
              replace nv := nv.hold H
              replace dv := dv.hold H
              replace ng := ng.hold H
              replace dg := dg.hold H
              clear H
              go_wp2_with fail
              refine (S.call (left_fit no (lt_maxN (by decide)) (k - 2) HV.out.2.2.2.2.2.2.2.2 (by rw [Nat.one_mul, HV.out.2.2.2.2.2.1]; exact HV.out.2.2.2.2.2.2.1))).mono ?_
              clear S
              rintro e w13 ⟨⟨vp, rfl, np⟩, S, H⟩
              replace nA := nA.hold H
              replace dA := dA.hold H
              replace nl := nl.hold H
              replace nh := nh.hold H
              replace nx := nx.hold H
              replace dx := dx.hold H
              replace nv := nv.hold H
              replace dv := dv.hold H
              replace ng := ng.hold H
              replace dg := dg.hold H
              replace no := no.hold H
              clear H
              rw [Nat.one_mul, HV.out.2.2.2.2.2.1] at np
              have c5_0 := S.c 5 0 rfl rfl
              have c5_1 := S.c 5 1 rfl rfl
              have c5_2 := S.c 5 2 rfl rfl
              go_upto_region 19 with fail
              clear c5_0 c5_1 c5_2
              go_cut [21, 22] (fun s21 s22 wx => ∃ g21 bw pw lw Kw qw jw Jw, s21 = .pointer (some ⟨g21, 0, none⟩) ∧ s22 = .int .i64 0 ∧ St w wx [(w.heap.size, 31, [.bool bA, .slice pA lA KA, .slice qA jA JA]), (w3.heap.size, 27, [.bool bl, .slice pl ll Kl, .int .i64 el]), (w4.heap.size, 27, [.bool bh, .slice ph lh Kh, .int .i64 eh]), (w9.heap.size, 31, [.bool bx, .slice px lx Kx, .slice qx jx Jx]), (w10.heap.size, 31, [.bool bv, .slice pv lv Kv, .slice qv jv Jv]), (w11.heap.size, 31, [.bool bg, .slice pg lg Kg, .slice qg jg Jg]), (g21, 31, [.bool bw, .slice pw lw Kw, .slice qw jw Jw])] ∧ Hid (negB wd.num = bw) ∧ IsNat wx (.slice pw lw Kw) wd.num.natAbs ∧ IsNat wx (.slice qw jw Jw) wd.den ∧ Hold w13 wx)
              case first =>
                have HH := Hold.drew w13
                replace nA := nA.hold HH
                replace dA := dA.hold HH
                replace nl := nl.hold HH
                replace nh := nh.hold HH
                replace nx := nx.hold HH
                replace dx := dx.hold HH
                replace nv := nv.hold HH
                replace dv := dv.hold HH
                replace ng := ng.hold HH
                replace dg := dg.hold HH
                replace no := no.hold HH
                replace np := np.hold HH
                replace S := S.drew
                refine wp_region_held_drew (S := fun W => W.cell? ⟨w11.heap.size, 0, none⟩ = some (.bool bg) ∧ W.cell? ⟨w11.heap.size, 1, none⟩ = some (.slice pg lg Kg) ∧ W.cell? ⟨w11.heap.size, 2, none⟩ = some (.slice qg jg Jg)) (by kernel_rfl) ⟨S.c 5 0 rfl rfl, S.c 5 1 rfl rfl, S.c 5 2 rfl rfl⟩ (fun hS => ?_)
                generalize w13.drew = w14 at S nA dA nl nh nx dx nv dv ng dg no np HH hS ⊢
                refine wpAnyH_take (i := 0) (v := ?_) ((List.getElem?_toArray ..).trans rfl) (by kernel_rfl) (by kernel_rfl) (by kernel_rfl) (fun _ _ _ h => h) (Or.inl ⟨rfl, fun W hW => ?_⟩) hS ?_
                rotate_left
                · obtain ⟨hW0, hW1, hW2⟩ := hW; go_simp; try first | rfl | (rw [if_neg (by first | omega | (simp only [ByteArray.size_append]; first | omega | (have h1 : (ByteArray.mk #[47]).size = 1 := rfl; omega)))]; try rfl) | kernel_rfl
                try simp only [Act.put, List.setIfInBounds_toArray, List.set_cons_zero, List.set_cons_succ]
                refine wpAnyH_take (i := 1) (v := ?_) ((List.getElem?_toArray ..).trans rfl) (by kernel_rfl) (by kernel_rfl) (by kernel_rfl) (fun _ _ _ h => h) (Or.inl ⟨rfl, fun W hW => ?_⟩) hS ?_
                rotate_left
                · obtain ⟨hW0, hW1, hW2⟩ := hW; go_simp; try first | rfl | (rw [if_neg (by first | omega | (simp only [ByteArray.size_append]; first | omega | (have h1 : (ByteArray.mk #[47]).size = 1 := rfl; omega)))]; try rfl) | kernel_rfl
                try simp only [Act.put, List.setIfInBounds_toArray, List.set_cons_zero, List.set_cons_succ]
                refine wpAnyH_ready (rs := [2, 8]) (by kernel_rfl) (by simp) (AllReadyH.cons ((List.getElem?_toArray ..).trans rfl) (fun KK hKK => ?_) (AllReadyH.cons ((List.getElem?_toArray ..).trans rfl) (fun KK hKK => ?_) AllReadyH.nil))
                ·
                  go_simp
                  clear hS
                  refine (S.call (wnat_any np HV.out.2.2.2.2.2.2.1 (P : Int) rfl)).mono ?_
                  clear S
                  rintro e w15 ⟨⟨_, rfl, pi, li, Ki, rfl, ni⟩, S, H⟩
                  replace nA := nA.hold H
                  replace dA := dA.hold H
                  replace nl := nl.hold H
                  replace nh := nh.hold H
                  replace nx := nx.hold H
                  replace dx := dx.hold H
                  replace nv := nv.hold H
                  replace dv := dv.hold H
                  replace ng := ng.hold H
                  replace dg := dg.hold H
                  replace no := no.hold H
                  replace np := np.hold H
                  replace HH := HH.trans H
                  clear H
                  go_wp2_with fail
                  refine hKK.out _ _ ⟨S.c 5 0 rfl rfl, S.c 5 1 rfl rfl, S.c 5 2 rfl rfl⟩ (fun hS => ?_)
                  clear hKK KK
                  try simp only [Act.put, List.setIfInBounds_toArray, List.set_cons_zero, List.set_cons_succ]
                  refine wpAnyH_ready (rs := [3, 8]) (by kernel_rfl) (by simp) (AllReadyH.cons ((List.getElem?_toArray ..).trans rfl) (fun KK hKK => ?_) (AllReadyH.cons ((List.getElem?_toArray ..).trans rfl) (fun KK hKK => ?_) AllReadyH.nil))
                  ·
                    go_simp
                    clear hS
                    refine (S.call (rwhole_any ⟨_, _, _, rfl, ni⟩ HV.out.2.2.2.2.2.2.1 (((P : Nat) : Int) : Rat) rfl)).mono ?_
                    clear S
                    rintro e w16 ⟨⟨_, rfl, br, pr, lr, Kr, qr, jr, Jr, rfl, hr, nr, dr⟩, S, H⟩
                    replace nA := nA.hold H
                    replace dA := dA.hold H
                    replace nl := nl.hold H
                    replace nh := nh.hold H
                    replace nx := nx.hold H
                    replace dx := dx.hold H
                    replace nv := nv.hold H
                    replace dv := dv.hold H
                    replace ng := ng.hold H
                    replace dg := dg.hold H
                    replace no := no.hold H
                    replace np := np.hold H
                    replace ni := ni.hold H
                    replace HH := HH.trans H
                    clear H
                    go_wp2_with fail
                    refine hKK.out _ _ ⟨S.c 5 0 rfl rfl, S.c 5 1 rfl rfl, S.c 5 2 rfl rfl⟩ (fun hS => ?_)
                    clear hKK KK
                    try simp only [Act.put, List.setIfInBounds_toArray, List.set_cons_zero, List.set_cons_succ]
                    refine wpAnyH_ready (rs := [4, 8]) (by kernel_rfl) (by simp) (AllReadyH.cons ((List.getElem?_toArray ..).trans rfl) (fun KK hKK => ?_) (AllReadyH.cons ((List.getElem?_toArray ..).trans rfl) (fun KK hKK => ?_) AllReadyH.nil))
                    ·
                      go_simp
                      clear hS
                      refine (S.call (rmul_any ⟨bg, pg, lg, Kg, qg, jg, Jg, rfl, hg, ng, dg⟩ ⟨br, pr, lr, Kr, qr, jr, Jr, rfl, hr, nr, dr⟩ RG.out HV.out.2.2.2.2.2.2.2.1 (by decide) wd HV.out.2.2.2.1)).mono ?_
                      clear S
                      rintro e w17 ⟨⟨_, rfl, bw, pw, lw, Kw, qw, jw, Jw, rfl, hw, nw, dw⟩, S, H⟩
                      replace nA := nA.hold H
                      replace dA := dA.hold H
                      replace nl := nl.hold H
                      replace nh := nh.hold H
                      replace nx := nx.hold H
                      replace dx := dx.hold H
                      replace nv := nv.hold H
                      replace dv := dv.hold H
                      replace ng := ng.hold H
                      replace dg := dg.hold H
                      replace no := no.hold H
                      replace np := np.hold H
                      replace ni := ni.hold H
                      replace nr := nr.hold H
                      replace dr := dr.hold H
                      replace HH := HH.trans H
                      clear H
                      go_wp2_with fail
                      refine hKK.out _ _ ⟨S.c 5 0 rfl rfl, S.c 5 1 rfl rfl, S.c 5 2 rfl rfl⟩ (fun hS => ?_)
                      clear hKK KK
                      try simp only [Act.put, List.setIfInBounds_toArray, List.set_cons_zero, List.set_cons_succ]
                      refine wpAnyH_take (i := 5) (v := ?_) ((List.getElem?_toArray ..).trans rfl) (by kernel_rfl) (by kernel_rfl) (by kernel_rfl) (fun _ _ _ h => h) (Or.inl ⟨rfl, fun W hW => ?_⟩) hS ?_
                      rotate_left
                      · obtain ⟨hW0, hW1, hW2⟩ := hW; go_simp; try first | rfl | (rw [if_neg (by first | omega | (simp only [ByteArray.size_append]; first | omega | (have h1 : (ByteArray.mk #[47]).size = 1 := rfl; omega)))]; try rfl) | kernel_rfl
                      try simp only [Act.put, List.setIfInBounds_toArray, List.set_cons_zero, List.set_cons_succ]
                      refine wpAnyH_take (i := 6) (v := ?_) ((List.getElem?_toArray ..).trans rfl) (by kernel_rfl) (by kernel_rfl) (by kernel_rfl) (fun _ _ _ h => h) (Or.inl ⟨rfl, fun W hW => ?_⟩) hS ?_
                      rotate_left
                      · obtain ⟨hW0, hW1, hW2⟩ := hW; go_simp; try first | rfl | (rw [if_neg (by first | omega | (simp only [ByteArray.size_append]; first | omega | (have h1 : (ByteArray.mk #[47]).size = 1 := rfl; omega)))]; try rfl) | kernel_rfl
                      try simp only [Act.put, List.setIfInBounds_toArray, List.set_cons_zero, List.set_cons_succ]
                      refine wpAnyH_take (i := 7) (v := ?_) ((List.getElem?_toArray ..).trans rfl) (by kernel_rfl) (by kernel_rfl) (by kernel_rfl) (fun _ _ _ h => h) (Or.inl ⟨rfl, fun W hW => ?_⟩) hS ?_
                      rotate_left
                      · obtain ⟨hW0, hW1, hW2⟩ := hW; go_simp; try first | rfl | (rw [if_neg (by first | omega | (simp only [ByteArray.size_append]; first | omega | (have h1 : (ByteArray.mk #[47]).size = 1 := rfl; omega)))]; try rfl) | kernel_rfl
                      try simp only [Act.put, List.setIfInBounds_toArray, List.set_cons_zero, List.set_cons_succ]
                      refine wpAnyH_ready (rs := [8]) (by kernel_rfl) (by simp) (AllReadyH.cons ((List.getElem?_toArray ..).trans rfl) (fun KK hKK => ?_) AllReadyH.nil)
                      go_simp
                      clear hS
                      have H := S.hnew 31 [.bool false, .slice none 0 0, .slice none 0 0]
                      replace S := S.alloc 31 [.bool false, .slice none 0 0, .slice none 0 0] (w17.heap.size)
                      try simp only [List.cons_append, List.nil_append] at S
                      replace nA := nA.hold H
                      replace dA := dA.hold H
                      replace nl := nl.hold H
                      replace nh := nh.hold H
                      replace nx := nx.hold H
                      replace dx := dx.hold H
                      replace nv := nv.hold H
                      replace dv := dv.hold H
                      replace ng := ng.hold H
                      replace dg := dg.hold H
                      replace no := no.hold H
                      replace np := np.hold H
                      replace ni := ni.hold H
                      replace nr := nr.hold H
                      replace dr := dr.hold H
                      replace nw := nw.hold H
                      replace dw := dw.hold H
                      replace HH := HH.trans H
                      clear H
                      refine hKK.out _ _ ⟨S.c 5 0 rfl rfl, S.c 5 1 rfl rfl, S.c 5 2 rfl rfl⟩ (fun hS => ?_)
                      generalize (w17.alloc (.cells #[.bool false, .slice none 0 0, .slice none 0 0] 31)) = w18 at S nA dA nl nh nx dx nv dv ng dg no np ni nr dr nw dw HH hS ⊢
                      clear hKK KK
                      try simp only [Act.put, List.setIfInBounds_toArray, List.set_cons_zero, List.set_cons_succ]
                      refine wpAnyH_ready (rs := [9]) (by kernel_rfl) (by simp) (AllReadyH.cons ((List.getElem?_toArray ..).trans rfl) (fun KK hKK => ?_) AllReadyH.nil)
                      have c0 := S.c 6 0 rfl rfl
                      have f0 := S.f 6 0 rfl
                      have c1 := S.c 6 1 rfl rfl
                      have f1 := S.f 6 1 rfl
                      have c2 := S.c 6 2 rfl rfl
                      have f2 := S.f 6 2 rfl
                      go_simp
                      clear hS c0 f0 c1 f1 c2 f2
                      have H := S.hset 6 0 (.bool bw) rfl rfl (by intro q n e; cases e)
                      replace S := S.set 6 0 (.bool bw) rfl
                      replace nA := nA.hold H
                      replace dA := dA.hold H
                      replace nl := nl.hold H
                      replace nh := nh.hold H
                      replace nx := nx.hold H
                      replace dx := dx.hold H
                      replace nv := nv.hold H
                      replace dv := dv.hold H
                      replace ng := ng.hold H
                      replace dg := dg.hold H
                      replace no := no.hold H
                      replace np := np.hold H
                      replace ni := ni.hold H
                      replace nr := nr.hold H
                      replace dr := dr.hold H
                      replace nw := nw.hold H
                      replace dw := dw.hold H
                      replace HH := HH.trans H
                      clear H
                      have H := S.hset 6 1 (.slice pw lw Kw) rfl rfl (by intro q n e; cases e)
                      replace S := S.set 6 1 (.slice pw lw Kw) rfl
                      replace nA := nA.hold H
                      replace dA := dA.hold H
                      replace nl := nl.hold H
                      replace nh := nh.hold H
                      replace nx := nx.hold H
                      replace dx := dx.hold H
                      replace nv := nv.hold H
                      replace dv := dv.hold H
                      replace ng := ng.hold H
                      replace dg := dg.hold H
                      replace no := no.hold H
                      replace np := np.hold H
                      replace ni := ni.hold H
                      replace nr := nr.hold H
                      replace dr := dr.hold H
                      replace nw := nw.hold H
                      replace dw := dw.hold H
                      replace HH := HH.trans H
                      clear H
                      have H := S.hset 6 2 (.slice qw jw Jw) rfl rfl (by intro q n e; cases e)
                      replace S := S.set 6 2 (.slice qw jw Jw) rfl
                      replace nA := nA.hold H
                      replace dA := dA.hold H
                      replace nl := nl.hold H
                      replace nh := nh.hold H
                      replace nx := nx.hold H
                      replace dx := dx.hold H
                      replace nv := nv.hold H
                      replace dv := dv.hold H
                      replace ng := ng.hold H
                      replace dg := dg.hold H
                      replace no := no.hold H
                      replace np := np.hold H
                      replace ni := ni.hold H
                      replace nr := nr.hold H
                      replace dr := dr.hold H
                      replace nw := nw.hold H
                      replace dw := dw.hold H
                      replace HH := HH.trans H
                      clear H
                      refine hKK.out _ _ ⟨S.c 5 0 rfl rfl, S.c 5 1 rfl rfl, S.c 5 2 rfl rfl⟩ (fun hS => ?_)
                      generalize (((w18.setCell ⟨w17.heap.size, 0, none⟩ (.bool bw)).setCell ⟨w17.heap.size, 1, none⟩ (.slice pw lw Kw)).setCell ⟨w17.heap.size, 2, none⟩ (.slice qw jw Jw)) = w19 at S nA dA nl nh nx dx nv dv ng dg no np ni nr dr nw dw HH hS ⊢
                      clear hKK KK
                      try simp only [Act.put, List.setIfInBounds_toArray, List.set_cons_zero, List.set_cons_succ]
                      refine wpAnyH_ready (rs := [10]) (by kernel_rfl) (by simp) (AllReadyH.cons ((List.getElem?_toArray ..).trans rfl) (fun KK hKK => ?_) AllReadyH.nil)
                      go_simp
                      refine hKK.out _ _ hS (fun hS => ?_)
                      clear hKK KK
                      try simp only [Act.put, List.setIfInBounds_toArray, List.set_cons_zero, List.set_cons_succ]
                      refine wpAnyH_done (by kernel_rfl) ?_ _
                      go_wp2_with fail
                      go_meet
                      case rel => exact ⟨w17.heap.size, bw, pw, lw, Kw, qw, jw, Jw, rfl, rfl, S, hw, nw, dw, HH⟩
                    ·
                      go_simp
                      clear hS
                      have H := S.hnew 31 [.bool false, .slice none 0 0, .slice none 0 0]
                      replace S := S.alloc 31 [.bool false, .slice none 0 0, .slice none 0 0] (w16.heap.size)
                      try simp only [List.cons_append, List.nil_append] at S
                      replace nA := nA.hold H
                      replace dA := dA.hold H
                      replace nl := nl.hold H
                      replace nh := nh.hold H
                      replace nx := nx.hold H
                      replace dx := dx.hold H
                      replace nv := nv.hold H
                      replace dv := dv.hold H
                      replace ng := ng.hold H
                      replace dg := dg.hold H
                      replace no := no.hold H
                      replace np := np.hold H
                      replace ni := ni.hold H
                      replace nr := nr.hold H
                      replace dr := dr.hold H
                      replace HH := HH.trans H
                      clear H
                      refine hKK.out _ _ ⟨S.c 5 0 rfl rfl, S.c 5 1 rfl rfl, S.c 5 2 rfl rfl⟩ (fun hS => ?_)
                      generalize (w16.alloc (.cells #[.bool false, .slice none 0 0, .slice none 0 0] 31)) = w20 at S nA dA nl nh nx dx nv dv ng dg no np ni nr dr HH hS ⊢
                      clear hKK KK
                      try simp only [Act.put, List.setIfInBounds_toArray, List.set_cons_zero, List.set_cons_succ]
                      refine wpAnyH_ready (rs := [4]) (by kernel_rfl) (by simp) (AllReadyH.cons ((List.getElem?_toArray ..).trans rfl) (fun KK hKK => ?_) AllReadyH.nil)
                      go_simp
                      clear hS
                      refine (S.call (rmul_any ⟨bg, pg, lg, Kg, qg, jg, Jg, rfl, hg, ng, dg⟩ ⟨br, pr, lr, Kr, qr, jr, Jr, rfl, hr, nr, dr⟩ RG.out HV.out.2.2.2.2.2.2.2.1 (by decide) wd HV.out.2.2.2.1)).mono ?_
                      clear S
                      rintro e w21 ⟨⟨_, rfl, bw, pw, lw, Kw, qw, jw, Jw, rfl, hw, nw, dw⟩, S, H⟩
                      replace nA := nA.hold H
                      replace dA := dA.hold H
                      replace nl := nl.hold H
                      replace nh := nh.hold H
                      replace nx := nx.hold H
                      replace dx := dx.hold H
                      replace nv := nv.hold H
                      replace dv := dv.hold H
                      replace ng := ng.hold H
                      replace dg := dg.hold H
                      replace no := no.hold H
                      replace np := np.hold H
                      replace ni := ni.hold H
                      replace nr := nr.hold H
                      replace dr := dr.hold H
                      replace HH := HH.trans H
                      clear H
                      go_wp2_with fail
                      refine hKK.out _ _ ⟨S.c 5 0 rfl rfl, S.c 5 1 rfl rfl, S.c 5 2 rfl rfl⟩ (fun hS => ?_)
                      clear hKK KK
                      try simp only [Act.put, List.setIfInBounds_toArray, List.set_cons_zero, List.set_cons_succ]
                      refine wpAnyH_take (i := 5) (v := ?_) ((List.getElem?_toArray ..).trans rfl) (by kernel_rfl) (by kernel_rfl) (by kernel_rfl) (fun _ _ _ h => h) (Or.inl ⟨rfl, fun W hW => ?_⟩) hS ?_
                      rotate_left
                      · obtain ⟨hW0, hW1, hW2⟩ := hW; go_simp; try first | rfl | (rw [if_neg (by first | omega | (simp only [ByteArray.size_append]; first | omega | (have h1 : (ByteArray.mk #[47]).size = 1 := rfl; omega)))]; try rfl) | kernel_rfl
                      try simp only [Act.put, List.setIfInBounds_toArray, List.set_cons_zero, List.set_cons_succ]
                      refine wpAnyH_take (i := 6) (v := ?_) ((List.getElem?_toArray ..).trans rfl) (by kernel_rfl) (by kernel_rfl) (by kernel_rfl) (fun _ _ _ h => h) (Or.inl ⟨rfl, fun W hW => ?_⟩) hS ?_
                      rotate_left
                      · obtain ⟨hW0, hW1, hW2⟩ := hW; go_simp; try first | rfl | (rw [if_neg (by first | omega | (simp only [ByteArray.size_append]; first | omega | (have h1 : (ByteArray.mk #[47]).size = 1 := rfl; omega)))]; try rfl) | kernel_rfl
                      try simp only [Act.put, List.setIfInBounds_toArray, List.set_cons_zero, List.set_cons_succ]
                      refine wpAnyH_take (i := 7) (v := ?_) ((List.getElem?_toArray ..).trans rfl) (by kernel_rfl) (by kernel_rfl) (by kernel_rfl) (fun _ _ _ h => h) (Or.inl ⟨rfl, fun W hW => ?_⟩) hS ?_
                      rotate_left
                      · obtain ⟨hW0, hW1, hW2⟩ := hW; go_simp; try first | rfl | (rw [if_neg (by first | omega | (simp only [ByteArray.size_append]; first | omega | (have h1 : (ByteArray.mk #[47]).size = 1 := rfl; omega)))]; try rfl) | kernel_rfl
                      try simp only [Act.put, List.setIfInBounds_toArray, List.set_cons_zero, List.set_cons_succ]
                      refine wpAnyH_ready (rs := [9]) (by kernel_rfl) (by simp) (AllReadyH.cons ((List.getElem?_toArray ..).trans rfl) (fun KK hKK => ?_) AllReadyH.nil)
                      have c0 := S.c 6 0 rfl rfl
                      have f0 := S.f 6 0 rfl
                      have c1 := S.c 6 1 rfl rfl
                      have f1 := S.f 6 1 rfl
                      have c2 := S.c 6 2 rfl rfl
                      have f2 := S.f 6 2 rfl
                      go_simp
                      clear hS c0 f0 c1 f1 c2 f2
                      have H := S.hset 6 0 (.bool bw) rfl rfl (by intro q n e; cases e)
                      replace S := S.set 6 0 (.bool bw) rfl
                      replace nA := nA.hold H
                      replace dA := dA.hold H
                      replace nl := nl.hold H
                      replace nh := nh.hold H
                      replace nx := nx.hold H
                      replace dx := dx.hold H
                      replace nv := nv.hold H
                      replace dv := dv.hold H
                      replace ng := ng.hold H
                      replace dg := dg.hold H
                      replace no := no.hold H
                      replace np := np.hold H
                      replace ni := ni.hold H
                      replace nr := nr.hold H
                      replace dr := dr.hold H
                      replace nw := nw.hold H
                      replace dw := dw.hold H
                      replace HH := HH.trans H
                      clear H
                      have H := S.hset 6 1 (.slice pw lw Kw) rfl rfl (by intro q n e; cases e)
                      replace S := S.set 6 1 (.slice pw lw Kw) rfl
                      replace nA := nA.hold H
                      replace dA := dA.hold H
                      replace nl := nl.hold H
                      replace nh := nh.hold H
                      replace nx := nx.hold H
                      replace dx := dx.hold H
                      replace nv := nv.hold H
                      replace dv := dv.hold H
                      replace ng := ng.hold H
                      replace dg := dg.hold H
                      replace no := no.hold H
                      replace np := np.hold H
                      replace ni := ni.hold H
                      replace nr := nr.hold H
                      replace dr := dr.hold H
                      replace nw := nw.hold H
                      replace dw := dw.hold H
                      replace HH := HH.trans H
                      clear H
                      have H := S.hset 6 2 (.slice qw jw Jw) rfl rfl (by intro q n e; cases e)
                      replace S := S.set 6 2 (.slice qw jw Jw) rfl
                      replace nA := nA.hold H
                      replace dA := dA.hold H
                      replace nl := nl.hold H
                      replace nh := nh.hold H
                      replace nx := nx.hold H
                      replace dx := dx.hold H
                      replace nv := nv.hold H
                      replace dv := dv.hold H
                      replace ng := ng.hold H
                      replace dg := dg.hold H
                      replace no := no.hold H
                      replace np := np.hold H
                      replace ni := ni.hold H
                      replace nr := nr.hold H
                      replace dr := dr.hold H
                      replace nw := nw.hold H
                      replace dw := dw.hold H
                      replace HH := HH.trans H
                      clear H
                      refine hKK.out _ _ ⟨S.c 5 0 rfl rfl, S.c 5 1 rfl rfl, S.c 5 2 rfl rfl⟩ (fun hS => ?_)
                      generalize (((w21.setCell ⟨w16.heap.size, 0, none⟩ (.bool bw)).setCell ⟨w16.heap.size, 1, none⟩ (.slice pw lw Kw)).setCell ⟨w16.heap.size, 2, none⟩ (.slice qw jw Jw)) = w22 at S nA dA nl nh nx dx nv dv ng dg no np ni nr dr nw dw HH hS ⊢
                      clear hKK KK
                      try simp only [Act.put, List.setIfInBounds_toArray, List.set_cons_zero, List.set_cons_succ]
                      refine wpAnyH_ready (rs := [10]) (by kernel_rfl) (by simp) (AllReadyH.cons ((List.getElem?_toArray ..).trans rfl) (fun KK hKK => ?_) AllReadyH.nil)
                      go_simp
                      refine hKK.out _ _ hS (fun hS => ?_)
                      clear hKK KK
                      try simp only [Act.put, List.setIfInBounds_toArray, List.set_cons_zero, List.set_cons_succ]
                      refine wpAnyH_done (by kernel_rfl) ?_ _
                      go_wp2_with fail
                      go_meet
                      case rel => exact ⟨w16.heap.size, bw, pw, lw, Kw, qw, jw, Jw, rfl, rfl, S, hw, nw, dw, HH⟩
                  ·
                    go_simp
                    clear hS
                    have H := S.hnew 31 [.bool false, .slice none 0 0, .slice none 0 0]
                    replace S := S.alloc 31 [.bool false, .slice none 0 0, .slice none 0 0] (w15.heap.size)
                    try simp only [List.cons_append, List.nil_append] at S
                    replace nA := nA.hold H
                    replace dA := dA.hold H
                    replace nl := nl.hold H
                    replace nh := nh.hold H
                    replace nx := nx.hold H
                    replace dx := dx.hold H
                    replace nv := nv.hold H
                    replace dv := dv.hold H
                    replace ng := ng.hold H
                    replace dg := dg.hold H
                    replace no := no.hold H
                    replace np := np.hold H
                    replace ni := ni.hold H
                    replace HH := HH.trans H
                    clear H
                    refine hKK.out _ _ ⟨S.c 5 0 rfl rfl, S.c 5 1 rfl rfl, S.c 5 2 rfl rfl⟩ (fun hS => ?_)
                    generalize (w15.alloc (.cells #[.bool false, .slice none 0 0, .slice none 0 0] 31)) = w23 at S nA dA nl nh nx dx nv dv ng dg no np ni HH hS ⊢
                    clear hKK KK
                    try simp only [Act.put, List.setIfInBounds_toArray, List.set_cons_zero, List.set_cons_succ]
                    refine wpAnyH_ready (rs := [3]) (by kernel_rfl) (by simp) (AllReadyH.cons ((List.getElem?_toArray ..).trans rfl) (fun KK hKK => ?_) AllReadyH.nil)
                    go_simp
                    clear hS
                    refine (S.call (rwhole_any ⟨_, _, _, rfl, ni⟩ HV.out.2.2.2.2.2.2.1 (((P : Nat) : Int) : Rat) rfl)).mono ?_
                    clear S
                    rintro e w24 ⟨⟨_, rfl, br, pr, lr, Kr, qr, jr, Jr, rfl, hr, nr, dr⟩, S, H⟩
                    replace nA := nA.hold H
                    replace dA := dA.hold H
                    replace nl := nl.hold H
                    replace nh := nh.hold H
                    replace nx := nx.hold H
                    replace dx := dx.hold H
                    replace nv := nv.hold H
                    replace dv := dv.hold H
                    replace ng := ng.hold H
                    replace dg := dg.hold H
                    replace no := no.hold H
                    replace np := np.hold H
                    replace ni := ni.hold H
                    replace HH := HH.trans H
                    clear H
                    go_wp2_with fail
                    refine hKK.out _ _ ⟨S.c 5 0 rfl rfl, S.c 5 1 rfl rfl, S.c 5 2 rfl rfl⟩ (fun hS => ?_)
                    clear hKK KK
                    try simp only [Act.put, List.setIfInBounds_toArray, List.set_cons_zero, List.set_cons_succ]
                    refine wpAnyH_ready (rs := [4]) (by kernel_rfl) (by simp) (AllReadyH.cons ((List.getElem?_toArray ..).trans rfl) (fun KK hKK => ?_) AllReadyH.nil)
                    go_simp
                    clear hS
                    refine (S.call (rmul_any ⟨bg, pg, lg, Kg, qg, jg, Jg, rfl, hg, ng, dg⟩ ⟨br, pr, lr, Kr, qr, jr, Jr, rfl, hr, nr, dr⟩ RG.out HV.out.2.2.2.2.2.2.2.1 (by decide) wd HV.out.2.2.2.1)).mono ?_
                    clear S
                    rintro e w25 ⟨⟨_, rfl, bw, pw, lw, Kw, qw, jw, Jw, rfl, hw, nw, dw⟩, S, H⟩
                    replace nA := nA.hold H
                    replace dA := dA.hold H
                    replace nl := nl.hold H
                    replace nh := nh.hold H
                    replace nx := nx.hold H
                    replace dx := dx.hold H
                    replace nv := nv.hold H
                    replace dv := dv.hold H
                    replace ng := ng.hold H
                    replace dg := dg.hold H
                    replace no := no.hold H
                    replace np := np.hold H
                    replace ni := ni.hold H
                    replace nr := nr.hold H
                    replace dr := dr.hold H
                    replace HH := HH.trans H
                    clear H
                    go_wp2_with fail
                    refine hKK.out _ _ ⟨S.c 5 0 rfl rfl, S.c 5 1 rfl rfl, S.c 5 2 rfl rfl⟩ (fun hS => ?_)
                    clear hKK KK
                    try simp only [Act.put, List.setIfInBounds_toArray, List.set_cons_zero, List.set_cons_succ]
                    refine wpAnyH_take (i := 5) (v := ?_) ((List.getElem?_toArray ..).trans rfl) (by kernel_rfl) (by kernel_rfl) (by kernel_rfl) (fun _ _ _ h => h) (Or.inl ⟨rfl, fun W hW => ?_⟩) hS ?_
                    rotate_left
                    · obtain ⟨hW0, hW1, hW2⟩ := hW; go_simp; try first | rfl | (rw [if_neg (by first | omega | (simp only [ByteArray.size_append]; first | omega | (have h1 : (ByteArray.mk #[47]).size = 1 := rfl; omega)))]; try rfl) | kernel_rfl
                    try simp only [Act.put, List.setIfInBounds_toArray, List.set_cons_zero, List.set_cons_succ]
                    refine wpAnyH_take (i := 6) (v := ?_) ((List.getElem?_toArray ..).trans rfl) (by kernel_rfl) (by kernel_rfl) (by kernel_rfl) (fun _ _ _ h => h) (Or.inl ⟨rfl, fun W hW => ?_⟩) hS ?_
                    rotate_left
                    · obtain ⟨hW0, hW1, hW2⟩ := hW; go_simp; try first | rfl | (rw [if_neg (by first | omega | (simp only [ByteArray.size_append]; first | omega | (have h1 : (ByteArray.mk #[47]).size = 1 := rfl; omega)))]; try rfl) | kernel_rfl
                    try simp only [Act.put, List.setIfInBounds_toArray, List.set_cons_zero, List.set_cons_succ]
                    refine wpAnyH_take (i := 7) (v := ?_) ((List.getElem?_toArray ..).trans rfl) (by kernel_rfl) (by kernel_rfl) (by kernel_rfl) (fun _ _ _ h => h) (Or.inl ⟨rfl, fun W hW => ?_⟩) hS ?_
                    rotate_left
                    · obtain ⟨hW0, hW1, hW2⟩ := hW; go_simp; try first | rfl | (rw [if_neg (by first | omega | (simp only [ByteArray.size_append]; first | omega | (have h1 : (ByteArray.mk #[47]).size = 1 := rfl; omega)))]; try rfl) | kernel_rfl
                    try simp only [Act.put, List.setIfInBounds_toArray, List.set_cons_zero, List.set_cons_succ]
                    refine wpAnyH_ready (rs := [9]) (by kernel_rfl) (by simp) (AllReadyH.cons ((List.getElem?_toArray ..).trans rfl) (fun KK hKK => ?_) AllReadyH.nil)
                    have c0 := S.c 6 0 rfl rfl
                    have f0 := S.f 6 0 rfl
                    have c1 := S.c 6 1 rfl rfl
                    have f1 := S.f 6 1 rfl
                    have c2 := S.c 6 2 rfl rfl
                    have f2 := S.f 6 2 rfl
                    go_simp
                    clear hS c0 f0 c1 f1 c2 f2
                    have H := S.hset 6 0 (.bool bw) rfl rfl (by intro q n e; cases e)
                    replace S := S.set 6 0 (.bool bw) rfl
                    replace nA := nA.hold H
                    replace dA := dA.hold H
                    replace nl := nl.hold H
                    replace nh := nh.hold H
                    replace nx := nx.hold H
                    replace dx := dx.hold H
                    replace nv := nv.hold H
                    replace dv := dv.hold H
                    replace ng := ng.hold H
                    replace dg := dg.hold H
                    replace no := no.hold H
                    replace np := np.hold H
                    replace ni := ni.hold H
                    replace nr := nr.hold H
                    replace dr := dr.hold H
                    replace nw := nw.hold H
                    replace dw := dw.hold H
                    replace HH := HH.trans H
                    clear H
                    have H := S.hset 6 1 (.slice pw lw Kw) rfl rfl (by intro q n e; cases e)
                    replace S := S.set 6 1 (.slice pw lw Kw) rfl
                    replace nA := nA.hold H
                    replace dA := dA.hold H
                    replace nl := nl.hold H
                    replace nh := nh.hold H
                    replace nx := nx.hold H
                    replace dx := dx.hold H
                    replace nv := nv.hold H
                    replace dv := dv.hold H
                    replace ng := ng.hold H
                    replace dg := dg.hold H
                    replace no := no.hold H
                    replace np := np.hold H
                    replace ni := ni.hold H
                    replace nr := nr.hold H
                    replace dr := dr.hold H
                    replace nw := nw.hold H
                    replace dw := dw.hold H
                    replace HH := HH.trans H
                    clear H
                    have H := S.hset 6 2 (.slice qw jw Jw) rfl rfl (by intro q n e; cases e)
                    replace S := S.set 6 2 (.slice qw jw Jw) rfl
                    replace nA := nA.hold H
                    replace dA := dA.hold H
                    replace nl := nl.hold H
                    replace nh := nh.hold H
                    replace nx := nx.hold H
                    replace dx := dx.hold H
                    replace nv := nv.hold H
                    replace dv := dv.hold H
                    replace ng := ng.hold H
                    replace dg := dg.hold H
                    replace no := no.hold H
                    replace np := np.hold H
                    replace ni := ni.hold H
                    replace nr := nr.hold H
                    replace dr := dr.hold H
                    replace nw := nw.hold H
                    replace dw := dw.hold H
                    replace HH := HH.trans H
                    clear H
                    refine hKK.out _ _ ⟨S.c 5 0 rfl rfl, S.c 5 1 rfl rfl, S.c 5 2 rfl rfl⟩ (fun hS => ?_)
                    generalize (((w25.setCell ⟨w15.heap.size, 0, none⟩ (.bool bw)).setCell ⟨w15.heap.size, 1, none⟩ (.slice pw lw Kw)).setCell ⟨w15.heap.size, 2, none⟩ (.slice qw jw Jw)) = w26 at S nA dA nl nh nx dx nv dv ng dg no np ni nr dr nw dw HH hS ⊢
                    clear hKK KK
                    try simp only [Act.put, List.setIfInBounds_toArray, List.set_cons_zero, List.set_cons_succ]
                    refine wpAnyH_ready (rs := [10]) (by kernel_rfl) (by simp) (AllReadyH.cons ((List.getElem?_toArray ..).trans rfl) (fun KK hKK => ?_) AllReadyH.nil)
                    go_simp
                    refine hKK.out _ _ hS (fun hS => ?_)
                    clear hKK KK
                    try simp only [Act.put, List.setIfInBounds_toArray, List.set_cons_zero, List.set_cons_succ]
                    refine wpAnyH_done (by kernel_rfl) ?_ _
                    go_wp2_with fail
                    go_meet
                    case rel => exact ⟨w15.heap.size, bw, pw, lw, Kw, qw, jw, Jw, rfl, rfl, S, hw, nw, dw, HH⟩
                ·
                  go_simp
                  clear hS
                  have H := S.hnew 31 [.bool false, .slice none 0 0, .slice none 0 0]
                  replace S := S.alloc 31 [.bool false, .slice none 0 0, .slice none 0 0] (w14.heap.size)
                  try simp only [List.cons_append, List.nil_append] at S
                  replace nA := nA.hold H
                  replace dA := dA.hold H
                  replace nl := nl.hold H
                  replace nh := nh.hold H
                  replace nx := nx.hold H
                  replace dx := dx.hold H
                  replace nv := nv.hold H
                  replace dv := dv.hold H
                  replace ng := ng.hold H
                  replace dg := dg.hold H
                  replace no := no.hold H
                  replace np := np.hold H
                  replace HH := HH.trans H
                  clear H
                  refine hKK.out _ _ ⟨S.c 5 0 rfl rfl, S.c 5 1 rfl rfl, S.c 5 2 rfl rfl⟩ (fun hS => ?_)
                  generalize (w14.alloc (.cells #[.bool false, .slice none 0 0, .slice none 0 0] 31)) = w27 at S nA dA nl nh nx dx nv dv ng dg no np HH hS ⊢
                  clear hKK KK
                  try simp only [Act.put, List.setIfInBounds_toArray, List.set_cons_zero, List.set_cons_succ]
                  refine wpAnyH_ready (rs := [2]) (by kernel_rfl) (by simp) (AllReadyH.cons ((List.getElem?_toArray ..).trans rfl) (fun KK hKK => ?_) AllReadyH.nil)
                  go_simp
                  clear hS
                  refine (S.call (wnat_any np HV.out.2.2.2.2.2.2.1 (P : Int) rfl)).mono ?_
                  clear S
                  rintro e w28 ⟨⟨_, rfl, pi, li, Ki, rfl, ni⟩, S, H⟩
                  replace nA := nA.hold H
                  replace dA := dA.hold H
                  replace nl := nl.hold H
                  replace nh := nh.hold H
                  replace nx := nx.hold H
                  replace dx := dx.hold H
                  replace nv := nv.hold H
                  replace dv := dv.hold H
                  replace ng := ng.hold H
                  replace dg := dg.hold H
                  replace no := no.hold H
                  replace np := np.hold H
                  replace HH := HH.trans H
                  clear H
                  go_wp2_with fail
                  refine hKK.out _ _ ⟨S.c 5 0 rfl rfl, S.c 5 1 rfl rfl, S.c 5 2 rfl rfl⟩ (fun hS => ?_)
                  clear hKK KK
                  try simp only [Act.put, List.setIfInBounds_toArray, List.set_cons_zero, List.set_cons_succ]
                  refine wpAnyH_ready (rs := [3]) (by kernel_rfl) (by simp) (AllReadyH.cons ((List.getElem?_toArray ..).trans rfl) (fun KK hKK => ?_) AllReadyH.nil)
                  go_simp
                  clear hS
                  refine (S.call (rwhole_any ⟨_, _, _, rfl, ni⟩ HV.out.2.2.2.2.2.2.1 (((P : Nat) : Int) : Rat) rfl)).mono ?_
                  clear S
                  rintro e w29 ⟨⟨_, rfl, br, pr, lr, Kr, qr, jr, Jr, rfl, hr, nr, dr⟩, S, H⟩
                  replace nA := nA.hold H
                  replace dA := dA.hold H
                  replace nl := nl.hold H
                  replace nh := nh.hold H
                  replace nx := nx.hold H
                  replace dx := dx.hold H
                  replace nv := nv.hold H
                  replace dv := dv.hold H
                  replace ng := ng.hold H
                  replace dg := dg.hold H
                  replace no := no.hold H
                  replace np := np.hold H
                  replace ni := ni.hold H
                  replace HH := HH.trans H
                  clear H
                  go_wp2_with fail
                  refine hKK.out _ _ ⟨S.c 5 0 rfl rfl, S.c 5 1 rfl rfl, S.c 5 2 rfl rfl⟩ (fun hS => ?_)
                  clear hKK KK
                  try simp only [Act.put, List.setIfInBounds_toArray, List.set_cons_zero, List.set_cons_succ]
                  refine wpAnyH_ready (rs := [4]) (by kernel_rfl) (by simp) (AllReadyH.cons ((List.getElem?_toArray ..).trans rfl) (fun KK hKK => ?_) AllReadyH.nil)
                  go_simp
                  clear hS
                  refine (S.call (rmul_any ⟨bg, pg, lg, Kg, qg, jg, Jg, rfl, hg, ng, dg⟩ ⟨br, pr, lr, Kr, qr, jr, Jr, rfl, hr, nr, dr⟩ RG.out HV.out.2.2.2.2.2.2.2.1 (by decide) wd HV.out.2.2.2.1)).mono ?_
                  clear S
                  rintro e w30 ⟨⟨_, rfl, bw, pw, lw, Kw, qw, jw, Jw, rfl, hw, nw, dw⟩, S, H⟩
                  replace nA := nA.hold H
                  replace dA := dA.hold H
                  replace nl := nl.hold H
                  replace nh := nh.hold H
                  replace nx := nx.hold H
                  replace dx := dx.hold H
                  replace nv := nv.hold H
                  replace dv := dv.hold H
                  replace ng := ng.hold H
                  replace dg := dg.hold H
                  replace no := no.hold H
                  replace np := np.hold H
                  replace ni := ni.hold H
                  replace nr := nr.hold H
                  replace dr := dr.hold H
                  replace HH := HH.trans H
                  clear H
                  go_wp2_with fail
                  refine hKK.out _ _ ⟨S.c 5 0 rfl rfl, S.c 5 1 rfl rfl, S.c 5 2 rfl rfl⟩ (fun hS => ?_)
                  clear hKK KK
                  try simp only [Act.put, List.setIfInBounds_toArray, List.set_cons_zero, List.set_cons_succ]
                  refine wpAnyH_take (i := 5) (v := ?_) ((List.getElem?_toArray ..).trans rfl) (by kernel_rfl) (by kernel_rfl) (by kernel_rfl) (fun _ _ _ h => h) (Or.inl ⟨rfl, fun W hW => ?_⟩) hS ?_
                  rotate_left
                  · obtain ⟨hW0, hW1, hW2⟩ := hW; go_simp; try first | rfl | (rw [if_neg (by first | omega | (simp only [ByteArray.size_append]; first | omega | (have h1 : (ByteArray.mk #[47]).size = 1 := rfl; omega)))]; try rfl) | kernel_rfl
                  try simp only [Act.put, List.setIfInBounds_toArray, List.set_cons_zero, List.set_cons_succ]
                  refine wpAnyH_take (i := 6) (v := ?_) ((List.getElem?_toArray ..).trans rfl) (by kernel_rfl) (by kernel_rfl) (by kernel_rfl) (fun _ _ _ h => h) (Or.inl ⟨rfl, fun W hW => ?_⟩) hS ?_
                  rotate_left
                  · obtain ⟨hW0, hW1, hW2⟩ := hW; go_simp; try first | rfl | (rw [if_neg (by first | omega | (simp only [ByteArray.size_append]; first | omega | (have h1 : (ByteArray.mk #[47]).size = 1 := rfl; omega)))]; try rfl) | kernel_rfl
                  try simp only [Act.put, List.setIfInBounds_toArray, List.set_cons_zero, List.set_cons_succ]
                  refine wpAnyH_take (i := 7) (v := ?_) ((List.getElem?_toArray ..).trans rfl) (by kernel_rfl) (by kernel_rfl) (by kernel_rfl) (fun _ _ _ h => h) (Or.inl ⟨rfl, fun W hW => ?_⟩) hS ?_
                  rotate_left
                  · obtain ⟨hW0, hW1, hW2⟩ := hW; go_simp; try first | rfl | (rw [if_neg (by first | omega | (simp only [ByteArray.size_append]; first | omega | (have h1 : (ByteArray.mk #[47]).size = 1 := rfl; omega)))]; try rfl) | kernel_rfl
                  try simp only [Act.put, List.setIfInBounds_toArray, List.set_cons_zero, List.set_cons_succ]
                  refine wpAnyH_ready (rs := [9]) (by kernel_rfl) (by simp) (AllReadyH.cons ((List.getElem?_toArray ..).trans rfl) (fun KK hKK => ?_) AllReadyH.nil)
                  have c0 := S.c 6 0 rfl rfl
                  have f0 := S.f 6 0 rfl
                  have c1 := S.c 6 1 rfl rfl
                  have f1 := S.f 6 1 rfl
                  have c2 := S.c 6 2 rfl rfl
                  have f2 := S.f 6 2 rfl
                  go_simp
                  clear hS c0 f0 c1 f1 c2 f2
                  have H := S.hset 6 0 (.bool bw) rfl rfl (by intro q n e; cases e)
                  replace S := S.set 6 0 (.bool bw) rfl
                  replace nA := nA.hold H
                  replace dA := dA.hold H
                  replace nl := nl.hold H
                  replace nh := nh.hold H
                  replace nx := nx.hold H
                  replace dx := dx.hold H
                  replace nv := nv.hold H
                  replace dv := dv.hold H
                  replace ng := ng.hold H
                  replace dg := dg.hold H
                  replace no := no.hold H
                  replace np := np.hold H
                  replace ni := ni.hold H
                  replace nr := nr.hold H
                  replace dr := dr.hold H
                  replace nw := nw.hold H
                  replace dw := dw.hold H
                  replace HH := HH.trans H
                  clear H
                  have H := S.hset 6 1 (.slice pw lw Kw) rfl rfl (by intro q n e; cases e)
                  replace S := S.set 6 1 (.slice pw lw Kw) rfl
                  replace nA := nA.hold H
                  replace dA := dA.hold H
                  replace nl := nl.hold H
                  replace nh := nh.hold H
                  replace nx := nx.hold H
                  replace dx := dx.hold H
                  replace nv := nv.hold H
                  replace dv := dv.hold H
                  replace ng := ng.hold H
                  replace dg := dg.hold H
                  replace no := no.hold H
                  replace np := np.hold H
                  replace ni := ni.hold H
                  replace nr := nr.hold H
                  replace dr := dr.hold H
                  replace nw := nw.hold H
                  replace dw := dw.hold H
                  replace HH := HH.trans H
                  clear H
                  have H := S.hset 6 2 (.slice qw jw Jw) rfl rfl (by intro q n e; cases e)
                  replace S := S.set 6 2 (.slice qw jw Jw) rfl
                  replace nA := nA.hold H
                  replace dA := dA.hold H
                  replace nl := nl.hold H
                  replace nh := nh.hold H
                  replace nx := nx.hold H
                  replace dx := dx.hold H
                  replace nv := nv.hold H
                  replace dv := dv.hold H
                  replace ng := ng.hold H
                  replace dg := dg.hold H
                  replace no := no.hold H
                  replace np := np.hold H
                  replace ni := ni.hold H
                  replace nr := nr.hold H
                  replace dr := dr.hold H
                  replace nw := nw.hold H
                  replace dw := dw.hold H
                  replace HH := HH.trans H
                  clear H
                  refine hKK.out _ _ ⟨S.c 5 0 rfl rfl, S.c 5 1 rfl rfl, S.c 5 2 rfl rfl⟩ (fun hS => ?_)
                  generalize (((w30.setCell ⟨w14.heap.size, 0, none⟩ (.bool bw)).setCell ⟨w14.heap.size, 1, none⟩ (.slice pw lw Kw)).setCell ⟨w14.heap.size, 2, none⟩ (.slice qw jw Jw)) = w31 at S nA dA nl nh nx dx nv dv ng dg no np ni nr dr nw dw HH hS ⊢
                  clear hKK KK
                  try simp only [Act.put, List.setIfInBounds_toArray, List.set_cons_zero, List.set_cons_succ]
                  refine wpAnyH_ready (rs := [10]) (by kernel_rfl) (by simp) (AllReadyH.cons ((List.getElem?_toArray ..).trans rfl) (fun KK hKK => ?_) AllReadyH.nil)
                  go_simp
                  refine hKK.out _ _ hS (fun hS => ?_)
                  clear hKK KK
                  try simp only [Act.put, List.setIfInBounds_toArray, List.set_cons_zero, List.set_cons_succ]
                  refine wpAnyH_done (by kernel_rfl) ?_ _
                  go_wp2_with fail
                  go_meet
                  case rel => exact ⟨w14.heap.size, bw, pw, lw, Kw, qw, jw, Jw, rfl, rfl, S, hw, nw, dw, HH⟩
              case rest =>
                obtain ⟨g21, bw, pw, lw, Kw, qw, jw, Jw, rfl, rfl, S, hw, nw, dw, HH⟩ := hcut
                obtain ⟨w32, rfl⟩ : ∃ W : World, W = wc := ⟨_, rfl⟩
                replace nA := nA.hold HH
                replace dA := dA.hold HH
                replace nl := nl.hold HH
                replace nh := nh.hold HH
                replace nx := nx.hold HH
                replace dx := dx.hold HH
                replace nv := nv.hold HH
                replace dv := dv.hold HH
                replace ng := ng.hold HH
                replace dg := dg.hold HH
                replace no := no.hold HH
                replace np := np.hold HH
                clear HH
                have RW := Lib.hid (show RB wd 447 from HV.out.2.2.2.1 ▸ rb_mul RG.out HV.out.2.2.2.2.2.2.2.1)
                have c0_0 := S.c 0 0 rfl rfl
                have c0_1 := S.c 0 1 rfl rfl
                have c0_2 := S.c 0 2 rfl rfl
                have c6_0 := S.c 6 0 rfl rfl
                have c6_1 := S.c 6 1 rfl rfl
                have c6_2 := S.c 6 2 rfl rfl
                go_upto_region 20 with fail
                clear c0_0 c0_1 c0_2 c6_0 c6_1 c6_2
                replace nA := nA.hold (Hold.drew _)
                replace dA := dA.hold (Hold.drew _)
                replace nl := nl.hold (Hold.drew _)
                replace nh := nh.hold (Hold.drew _)
                replace nx := nx.hold (Hold.drew _)
                replace dx := dx.hold (Hold.drew _)
                replace nv := nv.hold (Hold.drew _)
                replace dv := dv.hold (Hold.drew _)
                replace ng := ng.hold (Hold.drew _)
                replace dg := dg.hold (Hold.drew _)
                replace no := no.hold (Hold.drew _)
                replace np := np.hold (Hold.drew _)
                replace nw := nw.hold (Hold.drew _)
                replace dw := dw.hold (Hold.drew _)
                replace S := S.drew
                refine wp_region_held_drew (S := fun W => W.cell? ⟨g21, 0, none⟩ = some (.bool bw) ∧ W.cell? ⟨g21, 1, none⟩ = some (.slice pw lw Kw) ∧ W.cell? ⟨g21, 2, none⟩ = some (.slice qw jw Jw) ∧ W.cell? ⟨w.heap.size, 0, none⟩ = some (.bool bA) ∧ W.cell? ⟨w.heap.size, 1, none⟩ = some (.slice pA lA KA) ∧ W.cell? ⟨w.heap.size, 2, none⟩ = some (.slice qA jA JA)) (by kernel_rfl) ⟨S.c 6 0 rfl rfl, S.c 6 1 rfl rfl, S.c 6 2 rfl rfl, S.c 0 0 rfl rfl, S.c 0 1 rfl rfl, S.c 0 2 rfl rfl⟩ (fun hS => ?_)
                refine wpAnyH_take (i := 0) (v := ?_) ((List.getElem?_toArray ..).trans rfl) (by kernel_rfl) (by kernel_rfl) (by kernel_rfl) (fun _ _ _ h => h) (Or.inl ⟨rfl, fun W hW => ?_⟩) hS ?_
                rotate_left
                · obtain ⟨hW0, hW1, hW2, hW3, hW4, hW5⟩ := hW; go_simp; try first | rfl | (rw [if_neg (by first | omega | (simp only [ByteArray.size_append]; first | omega | (have h1 : (ByteArray.mk #[47]).size = 1 := rfl; omega)))]; try rfl) | kernel_rfl
                try simp only [Act.put, List.setIfInBounds_toArray, List.set_cons_zero, List.set_cons_succ]
                refine wpAnyH_take (i := 1) (v := ?_) ((List.getElem?_toArray ..).trans rfl) (by kernel_rfl) (by kernel_rfl) (by kernel_rfl) (fun _ _ _ h => h) (Or.inl ⟨rfl, fun W hW => ?_⟩) hS ?_
                rotate_left
                · obtain ⟨hW0, hW1, hW2, hW3, hW4, hW5⟩ := hW; go_simp; try first | rfl | (rw [if_neg (by first | omega | (simp only [ByteArray.size_append]; first | omega | (have h1 : (ByteArray.mk #[47]).size = 1 := rfl; omega)))]; try rfl) | kernel_rfl
                try simp only [Act.put, List.setIfInBounds_toArray, List.set_cons_zero, List.set_cons_succ]
                refine wpAnyH_ready (rs := [2]) (by kernel_rfl) (by simp) (AllReadyH.cons ((List.getElem?_toArray ..).trans rfl) (fun KK hKK => ?_) AllReadyH.nil)
                go_simp
                refine (S.call (rabs_any ⟨bA, pA, lA, KA, qA, jA, JA, rfl, hA, nA, dA⟩ (rb_max RA.out (by decide)))).mono ?_; clear S; rintro e w33 ⟨⟨_, rfl, bz, pz, lz, Kz, qz, jz, Jz, rfl, hz, nz, dz⟩, S, H⟩; replace nA := nA.hold H; replace dA := dA.hold H; replace nl := nl.hold H; replace nh := nh.hold H; replace nx := nx.hold H; replace dx := dx.hold H; replace nv := nv.hold H; replace dv := dv.hold H; replace ng := ng.hold H; replace dg := dg.hold H; replace no := no.hold H; replace np := np.hold H; replace nw := nw.hold H; replace dw := dw.hold H; clear H
                go_wp2_with fail
                refine hKK.out _ _ ⟨S.c 6 0 rfl rfl, S.c 6 1 rfl rfl, S.c 6 2 rfl rfl, S.c 0 0 rfl rfl, S.c 0 1 rfl rfl, S.c 0 2 rfl rfl⟩ (fun hS => ?_)
                clear hKK KK
                try simp only [Act.put, List.setIfInBounds_toArray, List.set_cons_zero, List.set_cons_succ]
                refine wpAnyH_ready (rs := [3]) (by kernel_rfl) (by simp) (AllReadyH.cons ((List.getElem?_toArray ..).trans rfl) (fun KK hKK => ?_) AllReadyH.nil)
                go_simp
                refine (S.call (rcompare_any ⟨bw, pw, lw, Kw, qw, jw, Jw, rfl, hw, nw, dw⟩ ⟨bz, pz, lz, Kz, qz, jz, Jz, rfl, hz, nz, dz⟩ RW.out (show RB zA.abs 10 from ⟨by rw [(abs_num zA).1]; exact RA.out.1, by rw [(abs_num zA).2]; exact RA.out.2⟩) (by decide) g HV.out.2.2.2.2.1)).mono ?_; clear S; rintro e w34 ⟨rfl, S, H⟩; replace nA := nA.hold H; replace dA := dA.hold H; replace nl := nl.hold H; replace nh := nh.hold H; replace nx := nx.hold H; replace dx := dx.hold H; replace nv := nv.hold H; replace dv := dv.hold H; replace ng := ng.hold H; replace dg := dg.hold H; replace no := no.hold H; replace np := np.hold H; replace nw := nw.hold H; replace dw := dw.hold H; replace nz := nz.hold H; replace dz := dz.hold H; clear H
                go_wp2_with fail
                refine hKK.out _ _ ⟨S.c 6 0 rfl rfl, S.c 6 1 rfl rfl, S.c 6 2 rfl rfl, S.c 0 0 rfl rfl, S.c 0 1 rfl rfl, S.c 0 2 rfl rfl⟩ (fun hS => ?_)
                clear hKK KK
                try simp only [Act.put, List.setIfInBounds_toArray, List.set_cons_zero, List.set_cons_succ]
                refine wpAnyH_take (i := 4) (v := ?_) ((List.getElem?_toArray ..).trans rfl) (by kernel_rfl) (by kernel_rfl) (by kernel_rfl) (fun _ _ _ h => h) (Or.inl ⟨rfl, fun W hW => ?_⟩) hS ?_
                rotate_left
                · obtain ⟨hW0, hW1, hW2, hW3, hW4, hW5⟩ := hW; go_simp; try first | rfl | (rw [if_neg (by first | omega | (simp only [ByteArray.size_append]; first | omega | (have h1 : (ByteArray.mk #[47]).size = 1 := rfl; omega)))]; try rfl) | kernel_rfl
                try simp only [Act.put, List.setIfInBounds_toArray, List.set_cons_zero, List.set_cons_succ]
                refine wpAnyH_take (i := 5) (v := ?_) ((List.getElem?_toArray ..).trans rfl) (by kernel_rfl) (by kernel_rfl) (by kernel_rfl) (fun _ _ _ h => h) (Or.inl ⟨rfl, fun W hW => ?_⟩) hS ?_
                rotate_left
                · obtain ⟨hW0, hW1, hW2, hW3, hW4, hW5⟩ := hW; go_simp; try first | rfl | (rw [if_neg (by first | omega | (simp only [ByteArray.size_append]; first | omega | (have h1 : (ByteArray.mk #[47]).size = 1 := rfl; omega)))]; try rfl) | kernel_rfl
                try simp only [Act.put, List.setIfInBounds_toArray, List.set_cons_zero, List.set_cons_succ]
                refine wpAnyH_take (i := 6) (v := ?_) ((List.getElem?_toArray ..).trans rfl) (by kernel_rfl) (by kernel_rfl) (by kernel_rfl) (fun _ _ _ h => h) (Or.inl ⟨rfl, fun W hW => ?_⟩) hS ?_
                rotate_left
                · obtain ⟨hW0, hW1, hW2, hW3, hW4, hW5⟩ := hW; go_simp; try first | rfl | (rw [if_neg (by first | omega | (simp only [ByteArray.size_append]; first | omega | (have h1 : (ByteArray.mk #[47]).size = 1 := rfl; omega)))]; try rfl) | kernel_rfl
                try simp only [Act.put, List.setIfInBounds_toArray, List.set_cons_zero, List.set_cons_succ]
                refine wpAnyH_ready (rs := [7]) (by kernel_rfl) (by simp) (AllReadyH.cons ((List.getElem?_toArray ..).trans rfl) (fun KK hKK => ?_) AllReadyH.nil)
                go_simp
                refine hKK.out _ _ ⟨S.c 6 0 rfl rfl, S.c 6 1 rfl rfl, S.c 6 2 rfl rfl, S.c 0 0 rfl rfl, S.c 0 1 rfl rfl, S.c 0 2 rfl rfl⟩ (fun hS => ?_)
                clear hKK KK
                try simp only [Act.put, List.setIfInBounds_toArray, List.set_cons_zero, List.set_cons_succ]
                refine wpAnyH_ready (rs := [8]) (by kernel_rfl) (by simp) (AllReadyH.cons ((List.getElem?_toArray ..).trans rfl) (fun KK hKK => ?_) AllReadyH.nil)
                go_simp
                refine hKK.out _ _ ⟨S.c 6 0 rfl rfl, S.c 6 1 rfl rfl, S.c 6 2 rfl rfl, S.c 0 0 rfl rfl, S.c 0 1 rfl rfl, S.c 0 2 rfl rfl⟩ (fun hS => ?_)
                clear hKK KK
                try simp only [Act.put, List.setIfInBounds_toArray, List.set_cons_zero, List.set_cons_succ]
                refine wpAnyH_done (by kernel_rfl) ?_ _
                go_wp2_with fail
                exact bodyPost_ret (v := .bool true) (by simp [results, Tryz.f4, go_sem]) rfl (⟨rfl, S.below⟩)
      · have h0' : (c1 != 0) = true := by simpa using h0
        clear h0 hc1
        go_wp2_with fail
        exact bodyPost_ret (v := .bool true) (by simp [results, Tryz.f4, go_sem]) rfl (⟨rfl, S.below⟩)

end Go.Proofs.YtkokimlgofimmaaGreatDoor
