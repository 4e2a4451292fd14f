/-
  girdlelaw03.IntegerTexts, as a walk: whatever the number, it returns true.
-/
import Derived.Test.YtcopfjooopindaaDoorM23

namespace Go.Proofs.YtcopfjooopindaaDoor
open Go.RowKit

theorem text_len_nb {l : List Nat} {m k : Nat} (h : IsText l m) (hm : m < NB k) : l.length ≤ 11 * k + 1 := by
  by_cases h1 : 1 < l.length
  · have h2 := Nat.lt_of_le_of_lt (h.low h1) hm
    unfold NB at h2
    rw [show (4294967296 : Nat) = 2 ^ 32 by decide, ← Nat.pow_mul] at h2
    have h3 := Nat.pow_le_pow_left (show 2 ^ 3 ≤ 10 by decide) (l.length - 1)
    rw [← Nat.pow_mul] at h3
    have := (Nat.pow_lt_pow_iff_right (a := 2) (by decide)).1 (Nat.lt_of_le_of_lt h3 h2)
    omega
  · omega
theorem IsText.head {l : List Nat} {m : Nat} (h : IsText l m) : l.head? ≠ some 45 := by
  intro e
  cases l with
  | nil => cases e
  | cons c l =>
    have : c = 45 := by simpa using e
    have h1 := h.1 c (List.mem_cons_self ..)
    omega
/-- What is needed of a number's text to read it again. -/
theorem itext_back {l : List Nat} {z : Int} {k : Nat} (h : IsIText l z) (hm : z.natAbs < NB k) : onlyB (restI l) = true ∧ (restI l).length ≤ 11 * k + 1 ∧ parseI l = z ∧ (l.head? = some 45 ↔ z < 0) ∧ 0 < l.length := by
  rcases h with ⟨h0, t, rfl, ht⟩ | ⟨h0, ht⟩
  · have e1 : restI (45 :: t) = t := by simp [restI]
    refine ⟨by rw [e1]; exact onlyB_pos ht.1 ht.2.2.1, by rw [e1]; exact text_len_nb ht hm, ?_, ⟨fun _ => h0, fun _ => rfl⟩, by simp⟩
    simp [parseI]
    rw [ht.2.1]
    omega
  · have hh := ht.head
    have e1 : restI l = l := by unfold restI; rw [if_neg hh]
    refine ⟨by rw [e1]; exact onlyB_pos ht.1 ht.2.2.1, by rw [e1]; exact text_len_nb ht hm, ?_, ⟨fun e => absurd e hh, fun e => by omega⟩, ht.pos⟩
    unfold parseI
    rw [if_neg hh, ht.2.1]
    omega

theorem first_dash {s : ByteArray} {z : Int} (h0 : 0 < s.size) (h : (bs s).head? = some 45 ↔ z < 0) : (((s[0]'h0).toNat : Int) == 45) = negB z := by
  have h1 := bs_get s 0 h0
  have h2 : (bs s).head? = some (s[0]'h0).toNat := by
    have hl : 0 < (bs s).length := by rw [bs_len]; exact h0
    rw [List.head?_eq_getElem?, List.getElem?_eq_getElem hl, ← h1, dg_lt hl]
  rw [h2] at h
  rw [Bool.eq_iff_iff]
  unfold negB
  rw [decide_eq_true_iff, ← h, beq_iff_eq]
  constructor
  · intro e
    have : (s[0]'h0).toNat = 45 := by omega
    rw [this]
  · intro e
    have : (s[0]'h0).toNat = 45 := by simpa using e
    omega
theorem big_bits {m : Nat} (h : 9223372036854775808 ≤ m) : 64 ≤ nbits m := by
  have h0 : m ≠ 0 := by omega
  have h1 := (nbits_spec h0).2.2
  apply Nat.le_of_not_lt
  intro h2
  have := Nat.pow_le_pow_right (n := 2) (by decide) (show nbits m ≤ 63 by omega)
  have h3 : (2 : Nat) ^ 63 = 9223372036854775808 := by decide
  omega

set_option maxRecDepth 100000 in
set_option maxHeartbeats 8000000 in
theorem integerTexts_any (b1 : Bool) (p1 : Option Addr) (K1 : Nat) (ds1 : List Nat) (n : Int) (w : World) (hT : Tab w) (at1 : At .u32 w p1 K1 ds1) (d1 : Dig 4294967296 ds1) (hn0 : -9223372036854775808 ≤ n) (hn1 : n ≤ 9223372036854775807) :
    Calls Tryd.prog 8 #[.agg #[.bool b1, .slice p1 ds1.length K1], .int .i64 n] w fun e w' => e = .returned (.bool true) ∧ Below w.heap.size w w' := by
  have HT := Lib.hid hT
  have HD := Lib.hid d1
  obtain ⟨l1, hl1⟩ : ∃ l, ds1.length = l := ⟨_, rfl⟩
  have HL := Lib.hid hl1
  rw [hl1]
  clear hT d1 hl1
  have Hn := Lib.hid (And.intro hn0 hn1)
  clear hn0 hn1
  have S := (St.start w).alloc 25 [.bool b1, .slice p1 l1 K1] (w.heap.size)
  replace at1 := at1.hold S.hold
  have c0_0 := S.c 0 0 rfl rfl
  have c0_1 := S.c 0 1 rfl rfl
  go_enter Tryd.func8, Tryd.ntmps8
  go_wp2_with fail
  clear c0_0 c0_1
  refine (S.call (counts_any _ (HT.out.below S.below))).mono ?_
  clear S
  rintro e w1 ⟨rfl, S, H⟩
  replace at1 := at1.hold H
  clear H
  have c0_0 := S.c 0 0 rfl rfl
  have c0_1 := S.c 0 1 rfl rfl
  go_wp2_with fail
  clear c0_0 c0_1
  refine (S.call (wof_any n _ Hn.out.1 Hn.out.2)).mono ?_
  clear S
  rintro e w2 ⟨⟨_, rfl, pn, ln, Kn, rfl, nn⟩, S, H⟩
  replace at1 := at1.hold H
  clear H
  have c0_0 := S.c 0 0 rfl rfl
  have c0_1 := S.c 0 1 rfl rfl
  go_wp2_with fail
  clear c0_0 c0_1
  refine (S.call (wsmall_ok ⟨_, _, _, rfl, nn⟩ Hn.out.1 Hn.out.2)).mono ?_
  clear S
  rintro e w3 ⟨rfl, S, H⟩
  replace at1 := at1.hold H
  replace nn := nn.hold H
  clear H
  have c0_0 := S.c 0 0 rfl rfl
  have c0_1 := S.c 0 1 rfl rfl
  have H := S.hnew 25 [.bool b1, .slice p1 l1 K1]
  replace S := S.alloc 25 [.bool b1, .slice p1 l1 K1] (w3.heap.size)
  replace at1 := at1.hold H
  replace nn := nn.hold H
  clear H
  go_wp2_with fail
  clear c0_0 c0_1
  refine (S.call (wfit_any _ 1 _ _ _ _ _ (S.lt 1 rfl) (by decide) (raws1 S 1 rfl HL.out at1 HD.out))).mono ?_
  clear S
  rintro e w4 ⟨⟨b, rfl, hb⟩, S, H⟩
  replace at1 := at1.hold H
  replace nn := nn.hold H
  clear H
  have c0_0 := S.c 0 0 rfl rfl
  have c0_1 := S.c 0 1 rfl rfl
  cases b with
  | false =>
    go_wp2_with fail
    exact bodyPost_ret (v := .bool true) (by simp [results, Tryd.f8, go_sem]) rfl (⟨rfl, S.below⟩)
  | true =>
    have t := hb.out rfl
    have T1 : Tried3 30 b1 ds1 := t 0 (by decide)
    obtain ⟨z1, hz1, hm1, N1⟩ := tried_int T1 HD.out HL.out at1
    have M1 := Lib.hid hm1
    clear at1
    clear t hb T1 hm1
    go_wp2_with fail
    clear c0_0 c0_1
    refine (S.call (wtext_any ⟨_, _, _, by rw [hz1.out], N1⟩ (nb_max M1.out (by decide)))).mono ?_
    clear S
    rintro e w5 ⟨⟨s, rfl, hs⟩, S, H⟩
    replace nn := nn.hold H
    replace N1 := N1.hold H
    clear H
    have c0_0 := S.c 0 0 rfl rfl
    have c0_1 := S.c 0 1 rfl rfl
    obtain ⟨ho, hl, hp, hh, h0⟩ := itext_back hs M1.out
    have HS := Lib.hid (And.intro ho (And.intro hl (And.intro hp hh)))
    rw [bs_len] at h0
    have h0I : (0 : Int) < (s.size : Int) := by omega
    clear hs ho hl hp hh
    go_wp2_with fail
    clear c0_0 c0_1
    refine (S.call (wparse_to s _ z1 HS.out.1 (Nat.le_trans HS.out.2.1 (by decide)) HS.out.2.2.1)).mono ?_
    clear S
    rintro e w6 ⟨⟨_, rfl, pb, lb, Kb, rfl, nb⟩, S, H⟩
    replace nn := nn.hold H
    replace N1 := N1.hold H
    clear H
    have c0_0 := S.c 0 0 rfl rfl
    have c0_1 := S.c 0 1 rfl rfl
    have H := S.hnew 25 [.bool (negB z1), .slice pb lb Kb]
    replace S := S.alloc 25 [.bool (negB z1), .slice pb lb Kb] (w6.heap.size)
    replace nn := nn.hold H
    replace N1 := N1.hold H
    replace nb := nb.hold H
    clear H
    have hq := (first_dash h0 HS.out.2.2.2).trans hz1.out
    have hbb : (b1 == b1) = true := by cases b1 <;> rfl
    clear c0_0 c0_1
    have c0_0 := S.c 0 0 rfl rfl
    have c0_1 := S.c 0 1 rfl rfl
    have c2_0 := S.c 2 0 rfl rfl
    have c2_1 := S.c 2 1 rfl rfl
    go_upto_region 10 with fail
    clear c0_0 c0_1 c2_0 c2_1
    replace nn := nn.hold (Hold.drew _)
    replace N1 := N1.hold (Hold.drew _)
    replace nb := nb.hold (Hold.drew _)
    replace S := S.drew
    have tok1 := Lib.hid trivial
    go_region_held3 (fun W => W.cell? ⟨w.heap.size, 0, none⟩ = some (.bool b1) ∧ W.cell? ⟨w.heap.size, 1, none⟩ = some (.slice p1 l1 K1) ∧ W.cell? ⟨w6.heap.size, 0, none⟩ = some (.bool (negB z1)) ∧ W.cell? ⟨w6.heap.size, 1, none⟩ = some (.slice pb lb Kb))
      (first | exact ⟨S.c 0 0 rfl rfl, S.c 0 1 rfl rfl, S.c 2 0 rfl rfl, S.c 2 1 rfl rfl⟩)
      (first
        | (clear tok1; go_at_call 17; refine (S.call (wsame_any ⟨_, _, _, by rw [hz1.out], N1⟩ ⟨_, _, _, rfl, nb⟩ (nb_max M1.out (by decide)) (nb_max M1.out (by decide)) (r := true) (cmp_same z1))).mono ?_; clear S; rintro e w7 ⟨rfl, S, H⟩; replace nn := nn.hold H; replace N1 := N1.hold H; replace nb := nb.hold H; clear H))
    by_cases hr : -9223372036854775808 ≤ z1 ∧ z1 ≤ 9223372036854775807
    · have HR := Lib.hid hr
      clear hr
      have c0_0 := S.c 0 0 rfl rfl
      have c0_1 := S.c 0 1 rfl rfl
      have c2_0 := S.c 2 0 rfl rfl
      have c2_1 := S.c 2 1 rfl rfl
      go_wp2_with fail
      clear c0_0 c0_1 c2_0 c2_1
      refine (S.call (wsmall_ok ⟨_, _, _, by rw [hz1.out], N1⟩ HR.out.1 HR.out.2)).mono ?_
      clear S
      rintro e w8 ⟨rfl, S, H⟩
      replace nn := nn.hold H
      replace N1 := N1.hold H
      replace nb := nb.hold H
      clear H
      have c0_0 := S.c 0 0 rfl rfl
      have c0_1 := S.c 0 1 rfl rfl
      have c2_0 := S.c 2 0 rfl rfl
      have c2_1 := S.c 2 1 rfl rfl
      go_upto_region 15 with fail
      clear c0_0 c0_1 c2_0 c2_1
      replace nn := nn.hold (Hold.drew _)
      replace N1 := N1.hold (Hold.drew _)
      replace nb := nb.hold (Hold.drew _)
      replace S := S.drew
      have tok1 := Lib.hid trivial
      have tok2 := Lib.hid trivial
      go_region_held3 (fun W => W.cell? ⟨w.heap.size, 0, none⟩ = some (.bool b1) ∧ W.cell? ⟨w.heap.size, 1, none⟩ = some (.slice p1 l1 K1))
        (first | exact ⟨S.c 0 0 rfl rfl, S.c 0 1 rfl rfl⟩)
        (first
          | (clear tok1; go_at_call 32; refine (S.call (wof_any z1 _ HR.out.1 HR.out.2)).mono ?_; clear S; rintro e w9 ⟨⟨_, rfl, pk, lk, Kk, rfl, nk⟩, S, H⟩; replace nn := nn.hold H; replace N1 := N1.hold H; replace nb := nb.hold H; clear H)
          | (clear tok2; go_at_call 17; refine (S.call (wsame_any ⟨_, _, _, rfl, nk⟩ ⟨_, _, _, by rw [hz1.out], N1⟩ (nb_max M1.out (by decide)) (nb_max M1.out (by decide)) (r := true) (cmp_same z1))).mono ?_; clear S; rintro e w10 ⟨rfl, S, H⟩; replace nn := nn.hold H; replace N1 := N1.hold H; replace nb := nb.hold H; replace nk := nk.hold H; clear H))
      go_wp2_with fail
      exact bodyPost_ret (v := .bool true) (by simp [results, Tryd.f8, go_sem]) rfl (⟨rfl, S.below⟩)
    · have HR := Lib.hid (show z1 < -9223372036854775808 ∨ 9223372036854775807 < z1 by omega)
      obtain ⟨t, ht⟩ : ∃ t, nbits z1.natAbs = t := ⟨_, rfl⟩
      have h64 : 64 ≤ t := by rw [← ht]; exact big_bits (by omega)
      have h64I : (64 : Int) ≤ (t : Int) := by omega
      have HT2 := Lib.hid ht
      clear hr ht
      have c0_0 := S.c 0 0 rfl rfl
      have c0_1 := S.c 0 1 rfl rfl
      have c2_0 := S.c 2 0 rfl rfl
      have c2_1 := S.c 2 1 rfl rfl
      go_wp2_with fail
      clear c0_0 c0_1 c2_0 c2_1
      refine (S.call (wsmall_over ⟨_, _, _, by rw [hz1.out], N1⟩ (nb_max M1.out (by decide)) HR.out)).mono ?_
      clear S
      rintro e w8 ⟨rfl, S, H⟩
      replace nn := nn.hold H
      replace N1 := N1.hold H
      replace nb := nb.hold H
      clear H
      have c0_0 := S.c 0 0 rfl rfl
      have c0_1 := S.c 0 1 rfl rfl
      have c2_0 := S.c 2 0 rfl rfl
      have c2_1 := S.c 2 1 rfl rfl
      go_wp2_with fail
      clear c0_0 c0_1 c2_0 c2_1
      refine (S.call (bits_nat N1 (nb_max M1.out (by decide)) HT2.out)).mono ?_
      clear S
      rintro e w9 ⟨rfl, S, H⟩
      replace nn := nn.hold H
      replace N1 := N1.hold H
      replace nb := nb.hold H
      clear H
      have c0_0 := S.c 0 0 rfl rfl
      have c0_1 := S.c 0 1 rfl rfl
      have c2_0 := S.c 2 0 rfl rfl
      have c2_1 := S.c 2 1 rfl rfl
      go_wp2_with fail
      exact bodyPost_ret (v := .bool true) (by simp [results, Tryd.f8, go_sem]) rfl (⟨rfl, S.below⟩)

end Go.Proofs.YtcopfjooopindaaDoor
