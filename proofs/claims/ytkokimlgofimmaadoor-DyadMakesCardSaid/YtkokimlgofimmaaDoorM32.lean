/-
  girdlelaw05.DyadMakes, as a walk: whatever the number and the power, it returns true.
-/
import Derived.Test.YtkokimlgofimmaaDoorM14
import Derived.Test.YtkokimlgofimmaaDoorM21
import Derived.Test.YtkokimlgofimmaaDoorM25
import Derived.Test.YtkokimlgofimmaaDoorM31

namespace Go.Proofs.YtkokimlgofimmaaDoor
open Go.RowKit


set_option maxRecDepth 100000 in
set_option maxHeartbeats 16000000 in
theorem dyadMakes_any (b1 : Bool) (p1 : Option Addr) (K1 : Nat) (ds1 : List Nat) (e : Int) (w : World) (hT : Tab w) (at1 : At .u32 w p1 K1 ds1) (d1 : Dig 4294967296 ds1) (he0 : -9223372036854775808 ≤ e) (he1 : e ≤ 9223372036854775807) :
    Calls Tryd.prog 3 #[.agg #[.bool b1, .slice p1 ds1.length K1], .int .i64 e] w fun e w' => e = .returned (.bool true) ∧ Below w.heap.size w w' := by
  have HT := Lib.hid hT
  have HD := Lib.hid d1
  have HE := Lib.hid (And.intro he0 he1)
  obtain ⟨l1, hl1⟩ : ∃ l, ds1.length = l := ⟨_, rfl⟩
  have HL := Lib.hid hl1
  rw [hl1]
  clear d1 hl1 hT he0 he1
  have S := (St.start w).alloc 25 [.bool b1, .slice p1 l1 K1] (w.heap.size)
  try simp only [List.cons_append, List.nil_append] at S
  replace at1 := at1.hold S.hold
  have c0_0 := S.c 0 0 rfl rfl
  have c0_1 := S.c 0 1 rfl rfl
  go_enter Tryd.func3, Tryd.ntmps3
  go_wp2_with fail
  clear c0_0 c0_1
  refine (S.call (halves_any _ (HT.out.below S.below))).mono ?_
  clear S
  rintro e w1 ⟨rfl, S, H⟩
  replace at1 := at1.hold H
  clear H
  have c0_0 := S.c 0 0 rfl rfl
  have c0_1 := S.c 0 1 rfl rfl
  by_cases h15 : 15 < l1
  · have h15' : (15 : Int) < (l1 : Int) := by omega
    go_wp2_with fail
    exact bodyPost_ret (v := .bool true) (by simp [results, Tryd.f3, go_sem]) rfl (⟨rfl, S.below⟩)
  · have h15' : ¬ (15 : Int) < (l1 : Int) := by omega
    go_wp2_with fail
    clear c0_0 c0_1
    refine (S.call (wcheck_raw b1 p1 K1 l1 ds1 _ at1 HD.out HL.out (by omega))).mono ?_
    clear S
    rintro e w2 ⟨⟨c1, rfl, hc1⟩, S, H⟩
    replace at1 := at1.hold H
    clear H
    have c0_0 := S.c 0 0 rfl rfl
    have c0_1 := S.c 0 1 rfl rfl
    by_cases h0 : c1 = 0
    · have h0' : (c1 != 0) = false := by rw [h0]; rfl
      have T1 := Lib.hid (show Tried3 15 b1 ds1 from ⟨by rw [HL.out]; omega, (hc1.out h0).1, (hc1.out h0).2⟩)
      clear h0 hc1 h15
      obtain ⟨z, hz, hm, N1⟩ := tried_int T1.out HD.out HL.out at1
      have M1 := Lib.hid hm
      clear at1
      clear T1 hm
      by_cases hz0 : z = 0
      · subst hz0
        go_wp2_with fail
        clear c0_0 c0_1
        refine (S.call (dmake_nil ⟨_, _, _, by rw [hz.out], N1⟩)).mono ?_
        clear S
        rintro e w3 ⟨rfl, S, H⟩
        replace N1 := N1.hold H
        clear H
        have c0_0 := S.c 0 0 rfl rfl
        have c0_1 := S.c 0 1 rfl rfl
        have H := S.hnew 30 [.bool false, .slice none 0 0, .int .i64 0]
        replace S := S.alloc 30 [.bool false, .slice none 0 0, .int .i64 0] (w3.heap.size)
        try simp only [List.cons_append, List.nil_append] at S
        replace N1 := N1.hold H
        clear H
        clear c0_0 c0_1
        have c0_0 := S.c 0 0 rfl rfl
        have c0_1 := S.c 0 1 rfl rfl
        have c1_0 := S.c 1 0 rfl rfl
        have c1_1 := S.c 1 1 rfl rfl
        have c1_2 := S.c 1 2 rfl rfl
        go_wp2_with fail
        clear c0_0 c0_1 c1_0 c1_1 c1_2
        refine (S.call (wsign_any (z := 0) (s := 0) ⟨_, _, _, by rw [hz.out], N1⟩ (lt_maxN (by decide)) rfl)).mono ?_
        clear S
        rintro e w4 ⟨rfl, S, H⟩
        replace N1 := N1.hold H
        clear H
        have c0_0 := S.c 0 0 rfl rfl
        have c0_1 := S.c 0 1 rfl rfl
        have c1_0 := S.c 1 0 rfl rfl
        have c1_1 := S.c 1 1 rfl rfl
        have c1_2 := S.c 1 2 rfl rfl
        go_wp2_with fail
        clear c0_0 c0_1 c1_0 c1_1 c1_2
        refine (S.call (dsign_any (x := 0) (L := 0) (H := 0) ⟨false, none, 0, 0, 0, 0, rfl, rfl, IsNat.zero _, DyF.zero _ _⟩ (by decide) (s := 0) rfl)).mono ?_
        clear S
        rintro e w5 ⟨rfl, S, H⟩
        replace N1 := N1.hold H
        clear H
        have c0_0 := S.c 0 0 rfl rfl
        have c0_1 := S.c 0 1 rfl rfl
        have c1_0 := S.c 1 0 rfl rfl
        have c1_1 := S.c 1 1 rfl rfl
        have c1_2 := S.c 1 2 rfl rfl
        go_wp2_with fail
        exact bodyPost_ret (v := .bool true) (by simp [results, Tryd.f3, go_sem]) rfl (⟨rfl, S.below⟩)
      · obtain ⟨s, hs⟩ : ∃ s, z.sign = s := ⟨_, rfl⟩
        have hs1 : (s == 0) = false := by rw [← hs]; simpa using hz0
        obtain ⟨t, ht⟩ : ∃ t, TailIs z.natAbs t := tail_ex _ (by omega)
        have htl : t ≤ 480 := tail_le ht (by omega) (nb_pb M1.out (Nat.le_refl _))
        have HZ := Lib.hid (And.intro hz0 (And.intro hs (And.intro ht (And.intro htl (nb_max M1.out (by decide) : z.natAbs < maxN)))))
        clear hz0 hs ht
        by_cases hx : e < -65536 ∨ 65536 < e
        · have HX := Lib.hid hx
          go_wp2_with fail
          clear c0_0 c0_1
          refine (S.call (dmake_range (HT.out.below S.below) ⟨_, _, _, by rw [hz.out], N1⟩ HZ.out.2.2.2.2 HZ.out.1 t HZ.out.2.2.1 (by omega) (.inl HX.out))).mono ?_
          clear S
          rintro e w3 ⟨rfl, S, H⟩
          replace N1 := N1.hold H
          clear H
          have c0_0 := S.c 0 0 rfl rfl
          have c0_1 := S.c 0 1 rfl rfl
          have H := S.hnew 30 [.bool false, .slice none 0 0, .int .i64 0]
          replace S := S.alloc 30 [.bool false, .slice none 0 0, .int .i64 0] (w3.heap.size)
          try simp only [List.cons_append, List.nil_append] at S
          replace N1 := N1.hold H
          clear H
          clear c0_0 c0_1
          have c0_0 := S.c 0 0 rfl rfl
          have c0_1 := S.c 0 1 rfl rfl
          have c1_0 := S.c 1 0 rfl rfl
          have c1_1 := S.c 1 1 rfl rfl
          have c1_2 := S.c 1 2 rfl rfl
          go_wp2_with fail
          clear c0_0 c0_1 c1_0 c1_1 c1_2
          refine (S.call (wsign_any ⟨_, _, _, by rw [hz.out], N1⟩ HZ.out.2.2.2.2 HZ.out.2.1)).mono ?_
          clear S
          rintro e w4 ⟨rfl, S, H⟩
          replace N1 := N1.hold H
          clear H
          have c0_0 := S.c 0 0 rfl rfl
          have c0_1 := S.c 0 1 rfl rfl
          have c1_0 := S.c 1 0 rfl rfl
          have c1_1 := S.c 1 1 rfl rfl
          have c1_2 := S.c 1 2 rfl rfl
          rcases hx with hx | hx
          · have hx2 : ¬ 65536 < e := by omega
            go_wp2_with fail
            clear c0_0 c0_1 c1_0 c1_1 c1_2
            refine (S.call (dsign_any (x := 0) (L := 0) (H := 0) ⟨false, none, 0, 0, 0, 0, rfl, rfl, IsNat.zero _, DyF.zero _ _⟩ (by decide) (s := 0) rfl)).mono ?_
            clear S
            rintro e w5 ⟨rfl, S, H⟩
            replace N1 := N1.hold H
            clear H
            have c0_0 := S.c 0 0 rfl rfl
            have c0_1 := S.c 0 1 rfl rfl
            have c1_0 := S.c 1 0 rfl rfl
            have c1_1 := S.c 1 1 rfl rfl
            have c1_2 := S.c 1 2 rfl rfl
            go_wp2_with fail
            exact bodyPost_ret (v := .bool true) (by simp [results, Tryd.f3, go_sem]) rfl (⟨rfl, S.below⟩)
          · have hx2 : 65536 < e := hx
            go_wp2_with fail
            clear c0_0 c0_1 c1_0 c1_1 c1_2
            refine (S.call (dsign_any (x := 0) (L := 0) (H := 0) ⟨false, none, 0, 0, 0, 0, rfl, rfl, IsNat.zero _, DyF.zero _ _⟩ (by decide) (s := 0) rfl)).mono ?_
            clear S
            rintro e w5 ⟨rfl, S, H⟩
            replace N1 := N1.hold H
            clear H
            have c0_0 := S.c 0 0 rfl rfl
            have c0_1 := S.c 0 1 rfl rfl
            have c1_0 := S.c 1 0 rfl rfl
            have c1_1 := S.c 1 1 rfl rfl
            have c1_2 := S.c 1 2 rfl rfl
            go_wp2_with fail
            exact bodyPost_ret (v := .bool true) (by simp [results, Tryd.f3, go_sem]) rfl (⟨rfl, S.below⟩)
        · have hx1 : ¬ 65536 < e := by omega
          have hx2 : ¬ e < -65536 := by omega
          obtain ⟨f, hf⟩ : ∃ f, e + (t : Int) = f := ⟨_, rfl⟩
          have hwr : IntKind.i64.wrap (e + (t : Int)) = f := by rw [wrap_int (by omega) (by omega), hf]
          have HF := Lib.hid (And.intro hf (show -65536 ≤ e ∧ e ≤ 65536 by omega))
          clear hx
          by_cases hf2 : 65536 < f
          · have HX := Lib.hid (show 65536 < e + (t : Int) by omega)
            clear hf
            go_wp2_with fail
            clear c0_0 c0_1
            refine (S.call (dmake_range (HT.out.below S.below) ⟨_, _, _, by rw [hz.out], N1⟩ HZ.out.2.2.2.2 HZ.out.1 t HZ.out.2.2.1 (by omega) (.inr ⟨HF.out.2.1, HF.out.2.2, HX.out⟩))).mono ?_
            clear S
            rintro e w3 ⟨rfl, S, H⟩
            replace N1 := N1.hold H
            clear H
            have c0_0 := S.c 0 0 rfl rfl
            have c0_1 := S.c 0 1 rfl rfl
            have H := S.hnew 30 [.bool false, .slice none 0 0, .int .i64 0]
            replace S := S.alloc 30 [.bool false, .slice none 0 0, .int .i64 0] (w3.heap.size)
            try simp only [List.cons_append, List.nil_append] at S
            replace N1 := N1.hold H
            clear H
            clear c0_0 c0_1
            have c0_0 := S.c 0 0 rfl rfl
            have c0_1 := S.c 0 1 rfl rfl
            have c1_0 := S.c 1 0 rfl rfl
            have c1_1 := S.c 1 1 rfl rfl
            have c1_2 := S.c 1 2 rfl rfl
            go_wp2_with fail
            clear c0_0 c0_1 c1_0 c1_1 c1_2
            refine (S.call (wsign_any ⟨_, _, _, by rw [hz.out], N1⟩ HZ.out.2.2.2.2 HZ.out.2.1)).mono ?_
            clear S
            rintro e w4 ⟨rfl, S, H⟩
            replace N1 := N1.hold H
            clear H
            have c0_0 := S.c 0 0 rfl rfl
            have c0_1 := S.c 0 1 rfl rfl
            have c1_0 := S.c 1 0 rfl rfl
            have c1_1 := S.c 1 1 rfl rfl
            have c1_2 := S.c 1 2 rfl rfl
            go_wp2_with fail
            clear c0_0 c0_1 c1_0 c1_1 c1_2
            refine (S.call (tail_nat' N1 HZ.out.2.2.2.2 (HT.out.below S.below))).mono ?_
            clear S
            rintro e w5 ⟨⟨t', rfl, ht'⟩, S, H⟩
            replace N1 := N1.hold H
            clear H
            have c0_0 := S.c 0 0 rfl rfl
            have c0_1 := S.c 0 1 rfl rfl
            have c1_0 := S.c 1 0 rfl rfl
            have c1_1 := S.c 1 1 rfl rfl
            have c1_2 := S.c 1 2 rfl rfl
            obtain rfl : t' = t := tail_uniq (by have := HZ.out.1; omega) ht'.out HZ.out.2.2.1
            clear ht'
            go_wp2_with fail
            clear c0_0 c0_1 c1_0 c1_1 c1_2
            refine (S.call (dsign_any (x := 0) (L := 0) (H := 0) ⟨false, none, 0, 0, 0, 0, rfl, rfl, IsNat.zero _, DyF.zero _ _⟩ (by decide) (s := 0) rfl)).mono ?_
            clear S
            rintro e w6 ⟨rfl, S, H⟩
            replace N1 := N1.hold H
            clear H
            have c0_0 := S.c 0 0 rfl rfl
            have c0_1 := S.c 0 1 rfl rfl
            have c1_0 := S.c 1 0 rfl rfl
            have c1_1 := S.c 1 1 rfl rfl
            have c1_2 := S.c 1 2 rfl rfl
            go_wp2_with fail
            exact bodyPost_ret (v := .bool true) (by simp [results, Tryd.f3, go_sem]) rfl (⟨rfl, S.below⟩)
          · obtain ⟨o, h1, h2, h3, h4⟩ := tail_odd HZ.out.1 HZ.out.2.2.1
            have hom : o.natAbs < maxN := Nat.lt_of_le_of_lt (by rw [h4]; exact Nat.le_mul_of_pos_right _ (Nat.two_pow_pos t)) HZ.out.2.2.2.2
            have hp : (2 : Int) ^ t = ((2 ^ t : Nat) : Int) := by simp
            have hwr2 : IntKind.i64.wrap (f - e) = (t : Int) := by rw [wrap_int (by omega) (by omega)]; omega
            have HO := Lib.hid (And.intro h1 (And.intro (show o * 2 ^ t = z by rw [hp]; exact h2.symm) (And.intro h3 (And.intro hom (And.intro (show o.natAbs * 2 ^ t < maxN by rw [← h4]; exact HZ.out.2.2.2.2) (And.intro (show -65536 ≤ f ∧ f ≤ 65536 by omega) (show t ≤ 9223372036854775807 by omega)))))))
            clear h1 h2 h3 h4 hom hp hf
            go_wp2_with fail
            clear c0_0 c0_1
            refine (S.call (dmake_wide (HT.out.below S.below) ⟨_, _, _, by rw [hz.out], N1⟩ HZ.out.2.2.2.2 HZ.out.1 t HZ.out.2.2.1 (by omega) HF.out.2 f HF.out.1 HO.out.2.2.2.2.2.1.2 o HO.out.2.2.1)).mono ?_
            clear S
            rintro e w3 ⟨⟨pd, ld, Kd, rfl, nd⟩, S, H⟩
            replace N1 := N1.hold H
            clear H
            have c0_0 := S.c 0 0 rfl rfl
            have c0_1 := S.c 0 1 rfl rfl
            have H := S.hnew 30 [.bool (negB o), .slice pd ld Kd, .int .i64 f]
            replace S := S.alloc 30 [.bool (negB o), .slice pd ld Kd, .int .i64 f] (w3.heap.size)
            try simp only [List.cons_append, List.nil_append] at S
            replace N1 := N1.hold H
            replace nd := nd.hold H
            clear H
            clear c0_0 c0_1
            have c0_0 := S.c 0 0 rfl rfl
            have c0_1 := S.c 0 1 rfl rfl
            have c1_0 := S.c 1 0 rfl rfl
            have c1_1 := S.c 1 1 rfl rfl
            have c1_2 := S.c 1 2 rfl rfl
            go_wp2_with fail
            clear c0_0 c0_1 c1_0 c1_1 c1_2
            refine (S.call (wsign_any ⟨_, _, _, by rw [hz.out], N1⟩ HZ.out.2.2.2.2 HZ.out.2.1)).mono ?_
            clear S
            rintro e w4 ⟨rfl, S, H⟩
            replace N1 := N1.hold H
            replace nd := nd.hold H
            clear H
            have c0_0 := S.c 0 0 rfl rfl
            have c0_1 := S.c 0 1 rfl rfl
            have c1_0 := S.c 1 0 rfl rfl
            have c1_1 := S.c 1 1 rfl rfl
            have c1_2 := S.c 1 2 rfl rfl
            go_wp2_with fail
            clear c0_0 c0_1 c1_0 c1_1 c1_2
            refine (S.call (tail_nat' N1 HZ.out.2.2.2.2 (HT.out.below S.below))).mono ?_
            clear S
            rintro e w5 ⟨⟨t', rfl, ht'⟩, S, H⟩
            replace N1 := N1.hold H
            replace nd := nd.hold H
            clear H
            have c0_0 := S.c 0 0 rfl rfl
            have c0_1 := S.c 0 1 rfl rfl
            have c1_0 := S.c 1 0 rfl rfl
            have c1_1 := S.c 1 1 rfl rfl
            have c1_2 := S.c 1 2 rfl rfl
            obtain rfl : t' = t := tail_uniq (by have := HZ.out.1; omega) ht'.out HZ.out.2.2.1
            clear ht'
            go_wp2_with fail
            clear c0_0 c0_1 c1_0 c1_1 c1_2
            refine (S.call (wleft_any ⟨_, _, _, rfl, nd⟩ HO.out.2.2.2.1 t' HO.out.2.2.2.2.2.2 HO.out.2.2.2.2.1 z HO.out.2.1)).mono ?_
            clear S
            rintro e w6 ⟨⟨_, rfl, pb, lb, Kb, rfl, nb⟩, S, H⟩
            replace N1 := N1.hold H
            replace nd := nd.hold H
            clear H
            have c0_0 := S.c 0 0 rfl rfl
            have c0_1 := S.c 0 1 rfl rfl
            have c1_0 := S.c 1 0 rfl rfl
            have c1_1 := S.c 1 1 rfl rfl
            have c1_2 := S.c 1 2 rfl rfl
            have H := S.hnew 25 [.bool (negB z), .slice pb lb Kb]
            replace S := S.alloc 25 [.bool (negB z), .slice pb lb Kb] (w6.heap.size)
            try simp only [List.cons_append, List.nil_append] at S
            replace N1 := N1.hold H
            replace nd := nd.hold H
            replace nb := nb.hold H
            clear H
            clear c0_0 c0_1 c1_0 c1_1 c1_2
            have c0_0 := S.c 0 0 rfl rfl
            have c0_1 := S.c 0 1 rfl rfl
            have c1_0 := S.c 1 0 rfl rfl
            have c1_1 := S.c 1 1 rfl rfl
            have c1_2 := S.c 1 2 rfl rfl
            have c2_0 := S.c 2 0 rfl rfl
            have c2_1 := S.c 2 1 rfl rfl
            go_wp2_with fail
            clear c0_0 c0_1 c1_0 c1_1 c1_2 c2_0 c2_1
            refine (S.call (wsame_any ⟨_, _, _, rfl, nb⟩ ⟨_, _, _, by rw [hz.out], N1⟩ HZ.out.2.2.2.2 HZ.out.2.2.2.2 (r := true) (cmp_same z))).mono ?_
            clear S
            rintro e w7 ⟨rfl, S, H⟩
            replace N1 := N1.hold H
            replace nd := nd.hold H
            replace nb := nb.hold H
            clear H
            have c0_0 := S.c 0 0 rfl rfl
            have c0_1 := S.c 0 1 rfl rfl
            have c1_0 := S.c 1 0 rfl rfl
            have c1_1 := S.c 1 1 rfl rfl
            have c1_2 := S.c 1 2 rfl rfl
            have c2_0 := S.c 2 0 rfl rfl
            have c2_1 := S.c 2 1 rfl rfl
            go_wp2_with fail
            clear c0_0 c0_1 c1_0 c1_1 c1_2 c2_0 c2_1
            refine (S.call (dcheck_wide (HT.out.below S.below) (m := o) rfl nd HO.out.2.2.2.1 HO.out.1 HO.out.2.2.2.2.2.1)).mono ?_
            clear S
            rintro e w8 ⟨rfl, S, H⟩
            replace N1 := N1.hold H
            replace nd := nd.hold H
            replace nb := nb.hold H
            clear H
            have c0_0 := S.c 0 0 rfl rfl
            have c0_1 := S.c 0 1 rfl rfl
            have c1_0 := S.c 1 0 rfl rfl
            have c1_1 := S.c 1 1 rfl rfl
            have c1_2 := S.c 1 2 rfl rfl
            have c2_0 := S.c 2 0 rfl rfl
            have c2_1 := S.c 2 1 rfl rfl
            go_wp2_with fail
            exact bodyPost_ret (v := .bool true) (by simp [results, Tryd.f3, go_sem]) rfl (⟨rfl, S.below⟩)
    · have h0' : (c1 != 0) = true := by simpa using h0
      clear h0 hc1
      go_wp2_with fail
      exact bodyPost_ret (v := .bool true) (by simp [results, Tryd.f3, go_sem]) rfl (⟨rfl, S.below⟩)

end Go.Proofs.YtkokimlgofimmaaDoor
