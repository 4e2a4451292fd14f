/-
  What the statement stands on.
-/
import Derived.Test.YtcdmojefheipoaaGreatDoorM38
import Derived.Test.YtcdmojefheipoaaGreatDoorM41
import Derived.Test.YtcdmojefheipoaaGreatDoorM44
namespace Go.Proofs.YtcdmojefheipoaaGreatDoor
open Go.RowKit
theorem rb_abs {x : Rat} {k : Nat} (h : RB x k) : RB x.abs k := by
  rcases Rat.le_total (a := 0) (b := x) with h0 | h0
  · rw [Rat.abs_of_nonneg h0]; exact h
  · rw [Rat.abs_of_nonpos h0]; exact rb_neg h
theorem sizes_all {x y z : Rat} (h1 : x ≤ z) (h2 : z ≤ y) : z.abs ≤ max2 x.abs y.abs ∧ 0 ≤ y - x ∧ (x ≤ (x + y) * (1 / 2) ∧ (x + y) * (1 / 2) ≤ y) ∧ y - (x + y) * (1 / 2) = (x + y) * (1 / 2) - x ∧ x + (y - x) = y := by
  refine ⟨?_, by grind, ⟨by grind, by grind⟩, by grind, by grind⟩
  have a1 := max2_ge x.abs y.abs
  have b1 : -x.abs ≤ x := by rcases Rat.le_total (a := 0) (b := x) with h | h
                             · rw [Rat.abs_of_nonneg h]; grind
                             · rw [Rat.abs_of_nonpos h]; grind
  have b2 : y ≤ y.abs := by rcases Rat.le_total (a := 0) (b := y) with h | h
                            · rw [Rat.abs_of_nonneg h]; grind
                            · rw [Rat.abs_of_nonpos h]; grind
  rcases Rat.le_total (a := 0) (b := z) with h | h
  · rw [Rat.abs_of_nonneg h]; grind
  · rw [Rat.abs_of_nonpos h]; grind
theorem cmpR_ge {x y : Rat} (h : y ≤ x) : 0 ≤ cmpR x y := by
  rcases rat_three x y with h1 | h1 | h1
  · exact absurd h1 (Rat.not_lt.2 h)
  · rw [h1, cmpR_eq]; exact Int.le_refl _
  · rw [cmpR_gt h1]; decide
theorem sgn_nonneg {x : Rat} (h : 0 ≤ x) : 0 ≤ x.num.sign := by
  rcases rat_three x 0 with h1 | h1 | h1
  · exact absurd h1 (Rat.not_lt.2 h)
  · subst h1; decide
  · rw [sgn_pos h1]; decide
set_option maxRecDepth 100000 in
set_option maxHeartbeats 16000000 in
theorem spanSizes_any (b1 : Bool) (p1 : Option Addr) (K1 : Nat) (ds1 : List Nat) (e1 : Int) (b2 : Bool) (p2 : Option Addr) (K2 : Nat) (ds2 : List Nat) (e2 : Int) (y1 : Int) (w : World) (hT : Tab w) (at1 : At .u32 w p1 K1 ds1) (dd1 : Dig 4294967296 ds1) (at2 : At .u32 w p2 K2 ds2) (dd2 : Dig 4294967296 ds2) (hy0 : -9223372036854775808 ≤ y1) (hy1 : y1 ≤ 9223372036854775807) :
    Calls Tryz.prog 6 #[.agg #[.bool b1, .slice p1 ds1.length K1, .int .i64 e1, .bool b2, .slice p2 ds2.length K2, .int .i64 e2], .int .i64 y1] w fun e w' => e = .returned (.bool true) ∧ Below w.heap.size w w' := by
  have HT := Lib.hid hT
  have HD1 := Lib.hid dd1
  obtain ⟨l1, hl1⟩ : ∃ l, ds1.length = l := ⟨_, rfl⟩
  have HL1 := Lib.hid hl1
  rw [hl1]
  have HD2 := Lib.hid dd2
  obtain ⟨l2, hl2⟩ : ∃ l, ds2.length = l := ⟨_, rfl⟩
  have HL2 := Lib.hid hl2
  rw [hl2]
  clear hT dd1 hl1 dd2 hl2
  have S := (St.start w).alloc 29 [.bool b1, .slice p1 l1 K1, .int .i64 e1, .bool b2, .slice p2 l2 K2, .int .i64 e2] (w.heap.size)
  try simp only [List.nil_append] at S
  replace at1 := at1.hold S.hold; replace at2 := at2.hold S.hold
  obtain ⟨c0_0, c0_1, c0_2, c0_3, c0_4, c0_5⟩ := S.c6 0 rfl
  go_enter Tryz.func6, Tryz.ntmps6
  go_wp2_with fail; clear c0_0 c0_1 c0_2 c0_3 c0_4 c0_5
  refine (S.call (between_any _ (HT.out.below S.below))).mono ?_
  clear S
  rintro e w1 ⟨rfl, S, H⟩
  replace at1 := at1.hold H; replace at2 := at2.hold H
  clear H; obtain ⟨c0_0, c0_1, c0_2, c0_3, c0_4, c0_5⟩ := S.c6 0 rfl
  have H := S.hnew 29 [.bool b1, .slice p1 l1 K1, .int .i64 e1, .bool b2, .slice p2 l2 K2, .int .i64 e2]
  replace S := S.al 29 [.bool b1, .slice p1 l1 K1, .int .i64 e1, .bool b2, .slice p2 l2 K2, .int .i64 e2] (w1.heap.size)
  replace at1 := at1.hold H; replace at2 := at2.hold H
  clear H; go_wp2_with fail; clear c0_0 c0_1 c0_2 c0_3 c0_4 c0_5
  refine (S.call (sfit_at _ 1 _ _ (HT.out.below S.below) (S.lt 1 rfl) (by decide) (spraw1 S 1 rfl HL1.out HL2.out at1 HD1.out at2 HD2.out))).mono ?_
  clear S
  rintro e w2 ⟨⟨ok, rfl, hok⟩, S, H⟩
  replace at1 := at1.hold H; replace at2 := at2.hold H
  clear H; obtain ⟨c0_0, c0_1, c0_2, c0_3, c0_4, c0_5⟩ := S.c6 0 rfl
  cases ok with
  | false =>
    go_wp2_with fail
    exact bodyPost_ret (v := .bool true) (by simp [results, Tryz.f6, go_sem]) rfl (⟨rfl, S.below⟩)
  | true =>
    obtain ⟨t1, t2, t1x⟩ : TriedS ⟨b1, b2, p1, p2, ds1, ds2, K1, K2, e1, e2⟩ := hok.out rfl 0 (by decide)
    obtain ⟨x1, hx1⟩ : ∃ x, rawQ b1 ds1 e1 = x := ⟨_, rfl⟩
    obtain ⟨m1, h1, n1, d1⟩ := raw_num hx1 t1 HD1.out HL1.out at1
    obtain ⟨x2, hx2⟩ : ∃ x, rawQ b2 ds2 e2 = x := ⟨_, rfl⟩
    obtain ⟨m2, h2, n2, d2⟩ := raw_num hx2 t2 HD2.out HL2.out at2
    have g1 : x1 ≤ x2 := by rw [← hx1, ← hx2]; exact Rat.not_lt.1 t1x
    clear t1 t2 t1x hx1 hx2
    have G := Lib.hid g1
    clear hok g1; clear at1 at2; clear c0_0 c0_1 c0_2 c0_3 c0_4 c0_5
    replace S := S.take 1 (L := [(w.heap.size, 29, [.bool b1, .slice p1 l1 K1, .int .i64 e1, .bool b2, .slice p2 l2 K2, .int .i64 e2])]) rfl
    obtain ⟨c0_0, c0_1, c0_2, c0_3, c0_4, c0_5⟩ := S.c6 0 rfl; go_wp2_with fail; clear c0_0 c0_1 c0_2 c0_3 c0_4 c0_5
    refine (S.call (sat_any (L := 200) (H := 520) (k := 23) _ ⟨b1, p1, l1, K1, m1, e1, b2, p2, l2, K2, m2, e2, rfl, h1, n1, d1, h2, n2, d2⟩ (by decide) (by decide) (by decide) (by decide) G.out)).mono ?_
    clear S
    rintro e w3 ⟨⟨_, rfl, z21, ⟨b21, p21, l21, K21, q21, j21, J21, rfl, h21, n21, d21⟩, hz21⟩, S, H⟩
    replace n1 := n1.hold H; replace n2 := n2.hold H
    clear H; obtain ⟨c0_0, c0_1, c0_2, c0_3, c0_4, c0_5⟩ := S.c6 0 rfl
    have H := S.hnew 34 [.bool b21, .slice p21 l21 K21, .slice q21 j21 J21]
    replace S := S.al 34 [.bool b21, .slice p21 l21 K21, .slice q21 j21 J21] (w3.heap.size)
    refine iv4 H n1 n2 n21 d21 ?_; clear n1 n2 n21 d21; intro n1 n2 n21 d21
    clear H
    have hall := sizes_all hz21.out.1 hz21.out.2.1
    obtain ⟨sz, hsz⟩ : ∃ s, max2 x1.abs x2.abs = s := ⟨_, rfl⟩
    obtain ⟨c, hc⟩ : ∃ c, cmpR sz z21.abs = c := ⟨_, rfl⟩
    have hc0 : ¬ c < 0 := by have := cmpR_ge hall.1; rw [hsz] at this; omega
    obtain ⟨wd, hwd⟩ : ∃ q, x2 - x1 = q := ⟨_, rfl⟩
    obtain ⟨md, hmd⟩ : ∃ q, (x1 + x2) * (1 / 2) = q := ⟨_, rfl⟩
    obtain ⟨pp, hpp⟩ : ∃ q, x2 - md = q := ⟨_, rfl⟩
    rw [hwd, hmd] at hall
    obtain ⟨s, hs⟩ : ∃ s, wd.num.sign = s := ⟨_, rfl⟩
    have hs0 : ¬ s < 0 := by have := sgn_nonneg hall.2.1; omega
    have HQ := Lib.hid (And.intro hc (And.intro hwd (And.intro hmd (And.intro hpp (And.intro hs (And.intro (hall.2.2.2.1.symm.trans hpp) hall.2.2.2.2))))))
    have HB := Lib.hid (show decide (¬ md < x1 ∧ ¬ x2 < md) = true from decide_eq_true ⟨Rat.not_lt.2 hall.2.2.1.1, Rat.not_lt.2 hall.2.2.1.2⟩)
    have HS := Lib.hid hsz
    have HR := Lib.hid (rb_abs hz21.out.2.2)
    have HY := Lib.hid hz21.out.2.2
    clear hall hc hwd hmd hpp hs hsz hz21; clear c0_0 c0_1 c0_2 c0_3 c0_4 c0_5; obtain ⟨c0_0, c0_1, c0_2, c0_3, c0_4, c0_5⟩ := S.c6 0 rfl; obtain ⟨c1_0, c1_1, c1_2⟩ := S.c3 1 rfl
    go_upto_region 6 with fail
    clear c0_0 c0_1 c0_2 c0_3 c0_4 c0_5 c1_0 c1_1 c1_2
    replace n1 := n1.hold (Hold.drew _); replace n2 := n2.hold (Hold.drew _); replace n21 := n21.hold (Hold.drew _); replace d21 := d21.hold (Hold.drew _)
    replace S := S.drew
    refine wp_region_held_drew (S := fun W => W.cell? ⟨w.heap.size, 0, none⟩ = some (.bool b1) ∧ W.cell? ⟨w.heap.size, 1, none⟩ = some (.slice p1 l1 K1) ∧ W.cell? ⟨w.heap.size, 2, none⟩ = some (.int .i64 e1) ∧ W.cell? ⟨w.heap.size, 3, none⟩ = some (.bool b2) ∧ W.cell? ⟨w.heap.size, 4, none⟩ = some (.slice p2 l2 K2) ∧ W.cell? ⟨w.heap.size, 5, none⟩ = some (.int .i64 e2) ∧ W.cell? ⟨w3.heap.size, 0, none⟩ = some (.bool b21) ∧ W.cell? ⟨w3.heap.size, 1, none⟩ = some (.slice p21 l21 K21) ∧ W.cell? ⟨w3.heap.size, 2, none⟩ = some (.slice q21 j21 J21)) (by kernel_rfl) (con6 (S.c6 0 rfl) (S.c3 1 rfl)) (fun hS => ?_)
    refine tk 0 hS ?_
    refine tk 2 hS ?_
    refine rd 1 fun KK hKK => ?_
    go_simp
    refine (S.call (ssize_any (L := 200) (H := 520) ⟨b1, p1, l1, K1, m1, e1, b2, p2, l2, K2, m2, e2, rfl, h1, n1, d1, h2, n2, d2⟩ (by decide))).mono ?_; clear S; rintro e w4 ⟨⟨_, rfl, b31, p31, l31, K31, m31, e31, rfl, h31, n31, d31⟩, S, H⟩; refine iv4 H n1 n2 n21 d21 ?_; clear n1 n2 n21 d21; intro n1 n2 n21 d21; clear H; rw [HS.out] at d31
    go_wp2_with fail
    refine ho hKK (con6 (S.c6 0 rfl) (S.c3 1 rfl)) fun hS => ?_
    clear hKK KK
    refine rd 3 fun KK hKK => ?_
    go_simp
    refine (S.call (rabs_any ⟨b21, p21, l21, K21, q21, j21, J21, rfl, h21, n21, d21⟩ (rb_max HY.out (by decide)))).mono ?_; clear S; rintro e w5 ⟨⟨_, rfl, b22, p22, l22, K22, q22, j22, J22, rfl, h22, n22, d22⟩, S, H⟩; refine iv5 H n1 n2 n21 d21 n31 ?_; clear n1 n2 n21 d21 n31; intro n1 n2 n21 d21 n31; clear H
    go_wp2_with fail
    refine ho hKK (con6 (S.c6 0 rfl) (S.c3 1 rfl)) fun hS => ?_
    clear hKK KK
    refine rd 4 fun KK hKK => ?_
    go_simp
    refine (S.call (dcmp_any (L := 200) (H := 520) (k1 := 23) (k2 := 72) ⟨b31, p31, l31, K31, m31, e31, rfl, h31, n31, d31⟩ ⟨b22, p22, l22, K22, q22, j22, J22, rfl, h22, n22, d22⟩ (by decide) (by decide) HR.out (by decide) c HQ.out.1)).mono ?_; clear S; rintro e w6 ⟨rfl, S, H⟩; refine iv7 H n1 n2 n21 d21 n31 n22 d22 ?_; clear n1 n2 n21 d21 n31 n22 d22; intro n1 n2 n21 d21 n31 n22 d22; clear H
    go_wp2_with fail
    refine ho hKK (con6 (S.c6 0 rfl) (S.c3 1 rfl)) fun hS => ?_
    clear hKK KK
    refine tk 5 hS ?_
    refine tk 6 hS ?_
    refine tk 7 hS ?_
    refine rd 8 fun KK hKK => ?_
    go_simp
    refine ho hKK (con6 (S.c6 0 rfl) (S.c3 1 rfl)) fun hS => ?_
    clear hKK KK
    refine rd 9 fun KK hKK => ?_
    go_simp
    refine ho hKK (con6 (S.c6 0 rfl) (S.c3 1 rfl)) fun hS => ?_
    clear hKK KK
    refine wpAnyH_done (by kernel_rfl) ?_ _
    obtain ⟨c0_0, c0_1, c0_2, c0_3, c0_4, c0_5⟩ := S.c6 0 rfl; go_wp2_with fail; clear c0_0 c0_1 c0_2 c0_3 c0_4 c0_5
    refine (S.call (swidth_any (L := 200) (H := 520) (HT.out.below S.below) ⟨b1, p1, l1, K1, m1, e1, b2, p2, l2, K2, m2, e2, rfl, h1, n1, d1, h2, n2, d2⟩ (by decide) wd HQ.out.2.1)).mono ?_
    clear S
    rintro e w7 ⟨⟨_, rfl, b32, p32, l32, K32, m32, e32, rfl, h32, n32, d32⟩, S, H⟩
    refine iv7 H n1 n2 n21 d21 n31 n22 d22 ?_; clear n1 n2 n21 d21 n31 n22 d22; intro n1 n2 n21 d21 n31 n22 d22
    clear H; obtain ⟨c0_0, c0_1, c0_2, c0_3, c0_4, c0_5⟩ := S.c6 0 rfl
    have H := S.hnew 27 [.bool b32, .slice p32 l32 K32, .int .i64 e32]
    replace S := S.al 27 [.bool b32, .slice p32 l32 K32, .int .i64 e32] (w7.heap.size)
    refine iv8 H n1 n2 n21 d21 n31 n22 d22 n32 ?_; clear n1 n2 n21 d21 n31 n22 d22 n32; intro n1 n2 n21 d21 n31 n22 d22 n32
    clear H; clear c0_0 c0_1 c0_2 c0_3 c0_4 c0_5; obtain ⟨c0_0, c0_1, c0_2, c0_3, c0_4, c0_5⟩ := S.c6 0 rfl; go_wp2_with fail
    generalize (.tuple #[.agg #[.bool b32, .slice p32 l32 K32, .int .i64 e32], .int .i64 0] : Value) = g1
    clear c0_0 c0_1 c0_2 c0_3 c0_4 c0_5
    refine (S.call (smiddle_any (L := 200) (H := 520) (HT.out.below S.below) ⟨b1, p1, l1, K1, m1, e1, b2, p2, l2, K2, m2, e2, rfl, h1, n1, d1, h2, n2, d2⟩ (by decide) md HQ.out.2.2.1)).mono ?_
    clear S
    rintro e w8 ⟨⟨_, rfl, b33, p33, l33, K33, m33, e33, rfl, h33, n33, d33⟩, S, H⟩
    refine iv8 H n1 n2 n21 d21 n31 n22 d22 n32 ?_; clear n1 n2 n21 d21 n31 n22 d22 n32; intro n1 n2 n21 d21 n31 n22 d22 n32
    clear H; obtain ⟨c0_0, c0_1, c0_2, c0_3, c0_4, c0_5⟩ := S.c6 0 rfl
    have H := S.hnew 27 [.bool b33, .slice p33 l33 K33, .int .i64 e33]
    replace S := S.al 27 [.bool b33, .slice p33 l33 K33, .int .i64 e33] (w8.heap.size)
    refine iv8 H n1 n2 n21 d21 n31 n22 d22 n32 ?_; clear n1 n2 n21 d21 n31 n22 d22 n32; intro n1 n2 n21 d21 n31 n22 d22 n32; replace n33 := n33.hold H
    clear H; clear c0_0 c0_1 c0_2 c0_3 c0_4 c0_5; obtain ⟨c2_0, c2_1, c2_2⟩ := S.c3 2 rfl; go_wp2_with fail
    generalize (.tuple #[.agg #[.bool b33, .slice p33 l33 K33, .int .i64 e33], .int .i64 0] : Value) = g2
    clear c2_0 c2_1 c2_2
    refine (S.call (dsign_any (L := 200) (H := 521) ⟨b32, p32, l32, K32, m32, e32, rfl, h32, n32, d32⟩ (by decide) HQ.out.2.2.2.2.1)).mono ?_
    clear S
    rintro e w9 ⟨rfl, S, H⟩
    refine iv8 H n1 n2 n21 d21 n31 n22 d22 n32 ?_; clear n1 n2 n21 d21 n31 n22 d22 n32; intro n1 n2 n21 d21 n31 n22 d22 n32; replace n33 := n33.hold H
    clear H; obtain ⟨c2_0, c2_1, c2_2⟩ := S.c3 2 rfl; clear c2_0 c2_1 c2_2; obtain ⟨c0_0, c0_1, c0_2, c0_3, c0_4, c0_5⟩ := S.c6 0 rfl; obtain ⟨c3_0, c3_1, c3_2⟩ := S.c3 3 rfl; go_wp2_with fail; clear c0_0 c0_1 c0_2 c0_3 c0_4 c0_5 c3_0 c3_1 c3_2
    refine (S.call (shas_any (L := 201) (H := 520) (IsSp.mono (L := 200) (H := 520) (L' := 201) (H' := 520) ⟨b1, p1, l1, K1, m1, e1, b2, p2, l2, K2, m2, e2, rfl, h1, n1, d1, h2, n2, d2⟩ (by decide) (by decide)) ⟨b33, p33, l33, K33, m33, e33, rfl, h33, n33, d33⟩ (by decide) true HB.out)).mono ?_
    clear S
    rintro e w10 ⟨rfl, S, H⟩
    refine iv8 H n1 n2 n21 d21 n31 n22 d22 n32 ?_; clear n1 n2 n21 d21 n31 n22 d22 n32; intro n1 n2 n21 d21 n31 n22 d22 n32; replace n33 := n33.hold H
    clear H; obtain ⟨c0_0, c0_1, c0_2, c0_3, c0_4, c0_5⟩ := S.c6 0 rfl; obtain ⟨c3_0, c3_1, c3_2⟩ := S.c3 3 rfl; clear c0_0 c0_1 c0_2 c0_3 c0_4 c0_5 c3_0 c3_1 c3_2; obtain ⟨c0_0, c0_1, c0_2, c0_3, c0_4, c0_5⟩ := S.c6 0 rfl; obtain ⟨c3_0, c3_1, c3_2⟩ := S.c3 3 rfl; go_wp2_with fail; clear c0_0 c0_1 c0_2 c0_3 c0_4 c0_5 c3_0 c3_1 c3_2
    refine (S.call (dsub_any (L := 201) (H := 520) (HT.out.below S.below) (IsD.mono (L := 200) (H := 520) (L' := 201) (H' := 520) ⟨b2, p2, l2, K2, m2, e2, rfl, h2, n2, d2⟩ (by decide) (by decide)) ⟨b33, p33, l33, K33, m33, e33, rfl, h33, n33, d33⟩ (by decide) pp HQ.out.2.2.2.1)).mono ?_
    clear S
    rintro e w11 ⟨⟨_, rfl, b34, p34, l34, K34, m34, e34, rfl, h34, n34, d34⟩, S, H⟩
    refine iv8 H n1 n2 n21 d21 n31 n22 d22 n32 ?_; clear n1 n2 n21 d21 n31 n22 d22 n32; intro n1 n2 n21 d21 n31 n22 d22 n32; replace n33 := n33.hold H
    clear H; obtain ⟨c0_0, c0_1, c0_2, c0_3, c0_4, c0_5⟩ := S.c6 0 rfl; obtain ⟨c3_0, c3_1, c3_2⟩ := S.c3 3 rfl
    have H := S.hnew 27 [.bool b34, .slice p34 l34 K34, .int .i64 e34]
    replace S := S.al 27 [.bool b34, .slice p34 l34 K34, .int .i64 e34] (w11.heap.size)
    refine iv8 H n1 n2 n21 d21 n31 n22 d22 n32 ?_; clear n1 n2 n21 d21 n31 n22 d22 n32; intro n1 n2 n21 d21 n31 n22 d22 n32; refine iv2 H n33 n34 ?_; clear n33 n34; intro n33 n34
    clear H; clear c0_0 c0_1 c0_2 c0_3 c0_4 c0_5 c3_0 c3_1 c3_2; obtain ⟨c0_0, c0_1, c0_2, c0_3, c0_4, c0_5⟩ := S.c6 0 rfl; obtain ⟨c3_0, c3_1, c3_2⟩ := S.c3 3 rfl; go_wp2_with fail
    generalize (.tuple #[.agg #[.bool b34, .slice p34 l34 K34, .int .i64 e34], .int .i64 0] : Value) = g3
    clear c0_0 c0_1 c0_2 c0_3 c0_4 c0_5 c3_0 c3_1 c3_2
    refine (S.call (dsub_any (L := 201) (H := 520) (HT.out.below S.below) ⟨b33, p33, l33, K33, m33, e33, rfl, h33, n33, d33⟩ (IsD.mono (L := 200) (H := 520) (L' := 201) (H' := 520) ⟨b1, p1, l1, K1, m1, e1, rfl, h1, n1, d1⟩ (by decide) (by decide)) (by decide) pp HQ.out.2.2.2.2.2.1)).mono ?_
    clear S
    rintro e w12 ⟨⟨_, rfl, b35, p35, l35, K35, m35, e35, rfl, h35, n35, d35⟩, S, H⟩
    refine iv8 H n1 n2 n21 d21 n31 n22 d22 n32 ?_; clear n1 n2 n21 d21 n31 n22 d22 n32; intro n1 n2 n21 d21 n31 n22 d22 n32; refine iv2 H n33 n34 ?_; clear n33 n34; intro n33 n34
    clear H; obtain ⟨c0_0, c0_1, c0_2, c0_3, c0_4, c0_5⟩ := S.c6 0 rfl; obtain ⟨c3_0, c3_1, c3_2⟩ := S.c3 3 rfl
    have H := S.hnew 27 [.bool b35, .slice p35 l35 K35, .int .i64 e35]
    replace S := S.al 27 [.bool b35, .slice p35 l35 K35, .int .i64 e35] (w12.heap.size)
    refine iv8 H n1 n2 n21 d21 n31 n22 d22 n32 ?_; clear n1 n2 n21 d21 n31 n22 d22 n32; intro n1 n2 n21 d21 n31 n22 d22 n32; refine iv3 H n33 n34 n35 ?_; clear n33 n34 n35; intro n33 n34 n35
    clear H; clear c0_0 c0_1 c0_2 c0_3 c0_4 c0_5 c3_0 c3_1 c3_2; obtain ⟨c0_0, c0_1, c0_2, c0_3, c0_4, c0_5⟩ := S.c6 0 rfl; obtain ⟨c2_0, c2_1, c2_2⟩ := S.c3 2 rfl; go_wp2_with fail
    generalize (.tuple #[.agg #[.bool b35, .slice p35 l35 K35, .int .i64 e35], .int .i64 0] : Value) = g4
    clear c0_0 c0_1 c0_2 c0_3 c0_4 c0_5 c2_0 c2_1 c2_2
    refine (S.call (dadd_any (L := 200) (H := 521) (HT.out.below S.below) (IsD.mono (L := 200) (H := 520) (L' := 200) (H' := 521) ⟨b1, p1, l1, K1, m1, e1, rfl, h1, n1, d1⟩ (by decide) (by decide)) ⟨b32, p32, l32, K32, m32, e32, rfl, h32, n32, d32⟩ (by decide) x2 HQ.out.2.2.2.2.2.2)).mono ?_
    clear S
    rintro e w13 ⟨⟨_, rfl, b36, p36, l36, K36, m36, e36, rfl, h36, n36, d36⟩, S, H⟩
    refine iv8 H n1 n2 n21 d21 n31 n22 d22 n32 ?_; clear n1 n2 n21 d21 n31 n22 d22 n32; intro n1 n2 n21 d21 n31 n22 d22 n32; refine iv3 H n33 n34 n35 ?_; clear n33 n34 n35; intro n33 n34 n35
    clear H; obtain ⟨c0_0, c0_1, c0_2, c0_3, c0_4, c0_5⟩ := S.c6 0 rfl; obtain ⟨c2_0, c2_1, c2_2⟩ := S.c3 2 rfl
    have H := S.hnew 27 [.bool b36, .slice p36 l36 K36, .int .i64 e36]
    replace S := S.al 27 [.bool b36, .slice p36 l36 K36, .int .i64 e36] (w13.heap.size)
    refine iv8 H n1 n2 n21 d21 n31 n22 d22 n32 ?_; clear n1 n2 n21 d21 n31 n22 d22 n32; intro n1 n2 n21 d21 n31 n22 d22 n32; refine iv4 H n33 n34 n35 n36 ?_; clear n33 n34 n35 n36; intro n33 n34 n35 n36
    clear H
    by_cases hlt : x1.abs < x2.abs
    ·
      have HC := Lib.hid (show cmpR sz x1.abs = 1 by rw [← HS.out]; unfold max2; rw [if_pos hlt]; exact cmpR_gt hlt)
      have HC2 := Lib.hid (show cmpR sz x2.abs = 0 by rw [← HS.out]; unfold max2; rw [if_pos hlt]; exact cmpR_eq _)
      clear hlt; clear c0_0 c0_1 c0_2 c0_3 c0_4 c0_5 c2_0 c2_1 c2_2; obtain ⟨c0_0, c0_1, c0_2, c0_3, c0_4, c0_5⟩ := S.c6 0 rfl
      go_upto_region 14 with fail
      clear c0_0 c0_1 c0_2 c0_3 c0_4 c0_5
      replace n1 := n1.hold (Hold.drew _); replace n2 := n2.hold (Hold.drew _); replace n21 := n21.hold (Hold.drew _); replace d21 := d21.hold (Hold.drew _); replace n31 := n31.hold (Hold.drew _); replace n22 := n22.hold (Hold.drew _); replace d22 := d22.hold (Hold.drew _); replace n32 := n32.hold (Hold.drew _); replace n33 := n33.hold (Hold.drew _); replace n34 := n34.hold (Hold.drew _); replace n35 := n35.hold (Hold.drew _); replace n36 := n36.hold (Hold.drew _)
      replace S := S.drew
      refine wp_region_held_drew (S := fun W => W.cell? ⟨w.heap.size, 0, none⟩ = some (.bool b1) ∧ W.cell? ⟨w.heap.size, 1, none⟩ = some (.slice p1 l1 K1) ∧ W.cell? ⟨w.heap.size, 2, none⟩ = some (.int .i64 e1) ∧ W.cell? ⟨w.heap.size, 3, none⟩ = some (.bool b2) ∧ W.cell? ⟨w.heap.size, 4, none⟩ = some (.slice p2 l2 K2) ∧ W.cell? ⟨w.heap.size, 5, none⟩ = some (.int .i64 e2)) (by kernel_rfl) (S.c6 0 rfl) (fun hS => ?_)
      refine tk 0 hS ?_
      refine tk 2 hS ?_
      refine tk 3 hS ?_
      refine rd 1 fun KK hKK => ?_
      go_simp
      refine (S.call (ssize_any (L := 200) (H := 520) ⟨b1, p1, l1, K1, m1, e1, b2, p2, l2, K2, m2, e2, rfl, h1, n1, d1, h2, n2, d2⟩ (by decide))).mono ?_; clear S; rintro e w14 ⟨⟨_, rfl, b41, p41, l41, K41, m41, e41, rfl, h41, n41, d41⟩, S, H⟩; refine iv8 H n1 n2 n21 d21 n31 n22 d22 n32 ?_; clear n1 n2 n21 d21 n31 n22 d22 n32; intro n1 n2 n21 d21 n31 n22 d22 n32; refine iv4 H n33 n34 n35 n36 ?_; clear n33 n34 n35 n36; intro n33 n34 n35 n36; clear H; rw [HS.out] at d41
      go_wp2_with fail
      refine ho hKK (S.c6 0 rfl) fun hS => ?_
      clear hKK KK
      refine rd 4 fun KK hKK => ?_
      go_simp
      refine (S.call (dabs_any (L := 200) (H := 520) ⟨b1, p1, l1, K1, m1, e1, rfl, h1, n1, d1⟩ (by decide))).mono ?_; clear S; rintro e w15 ⟨⟨_, rfl, b42, p42, l42, K42, m42, e42, rfl, h42, n42, d42⟩, S, H⟩; refine iv8 H n1 n2 n21 d21 n31 n22 d22 n32 ?_; clear n1 n2 n21 d21 n31 n22 d22 n32; intro n1 n2 n21 d21 n31 n22 d22 n32; refine iv5 H n33 n34 n35 n36 n41 ?_; clear n33 n34 n35 n36 n41; intro n33 n34 n35 n36 n41; clear H
      go_wp2_with fail
      refine ho hKK (S.c6 0 rfl) fun hS => ?_
      clear hKK KK
      refine rd 5 fun KK hKK => ?_
      go_simp
      refine (S.call (dcompare_any (L := 200) (H := 520) ⟨b41, p41, l41, K41, m41, e41, rfl, h41, n41, d41⟩ ⟨b42, p42, l42, K42, m42, e42, rfl, h42, n42, d42⟩ (by decide) 1 HC.out)).mono ?_; clear S; rintro e w16 ⟨rfl, S, H⟩; refine iv8 H n1 n2 n21 d21 n31 n22 d22 n32 ?_; clear n1 n2 n21 d21 n31 n22 d22 n32; intro n1 n2 n21 d21 n31 n22 d22 n32; refine iv6 H n33 n34 n35 n36 n41 n42 ?_; clear n33 n34 n35 n36 n41 n42; intro n33 n34 n35 n36 n41 n42; clear H
      go_wp2_with fail
      refine ho hKK (S.c6 0 rfl) fun hS => ?_
      clear hKK KK
      refine tk 6 hS ?_
      refine tk 7 hS ?_
      refine tk 8 hS ?_
      refine tk 10 hS ?_
      refine tk 11 hS ?_
      refine rd 9 fun KK hKK => ?_
      go_simp
      refine (S.call (ssize_any (L := 200) (H := 520) ⟨b1, p1, l1, K1, m1, e1, b2, p2, l2, K2, m2, e2, rfl, h1, n1, d1, h2, n2, d2⟩ (by decide))).mono ?_; clear S; rintro e w17 ⟨⟨_, rfl, b43, p43, l43, K43, m43, e43, rfl, h43, n43, d43⟩, S, H⟩; refine iv8 H n1 n2 n21 d21 n31 n22 d22 n32 ?_; clear n1 n2 n21 d21 n31 n22 d22 n32; intro n1 n2 n21 d21 n31 n22 d22 n32; refine iv6 H n33 n34 n35 n36 n41 n42 ?_; clear n33 n34 n35 n36 n41 n42; intro n33 n34 n35 n36 n41 n42; clear H; rw [HS.out] at d43
      go_wp2_with fail
      refine ho hKK (S.c6 0 rfl) fun hS => ?_
      clear hKK KK
      refine rd 12 fun KK hKK => ?_
      go_simp
      refine (S.call (dabs_any (L := 200) (H := 520) ⟨b2, p2, l2, K2, m2, e2, rfl, h2, n2, d2⟩ (by decide))).mono ?_; clear S; rintro e w18 ⟨⟨_, rfl, b44, p44, l44, K44, m44, e44, rfl, h44, n44, d44⟩, S, H⟩; refine iv8 H n1 n2 n21 d21 n31 n22 d22 n32 ?_; clear n1 n2 n21 d21 n31 n22 d22 n32; intro n1 n2 n21 d21 n31 n22 d22 n32; refine iv7 H n33 n34 n35 n36 n41 n42 n43 ?_; clear n33 n34 n35 n36 n41 n42 n43; intro n33 n34 n35 n36 n41 n42 n43; clear H
      go_wp2_with fail
      refine ho hKK (S.c6 0 rfl) fun hS => ?_
      clear hKK KK
      refine rd 13 fun KK hKK => ?_
      go_simp
      refine (S.call (dcompare_any (L := 200) (H := 520) ⟨b43, p43, l43, K43, m43, e43, rfl, h43, n43, d43⟩ ⟨b44, p44, l44, K44, m44, e44, rfl, h44, n44, d44⟩ (by decide) 0 HC2.out)).mono ?_; clear S; rintro e w19 ⟨rfl, S, H⟩; refine iv8 H n1 n2 n21 d21 n31 n22 d22 n32 ?_; clear n1 n2 n21 d21 n31 n22 d22 n32; intro n1 n2 n21 d21 n31 n22 d22 n32; refine iv8 H n33 n34 n35 n36 n41 n42 n43 n44 ?_; clear n33 n34 n35 n36 n41 n42 n43 n44; intro n33 n34 n35 n36 n41 n42 n43 n44; clear H
      go_wp2_with fail
      refine ho hKK (S.c6 0 rfl) fun hS => ?_
      clear hKK KK
      refine tk 14 hS ?_
      refine tk 15 hS ?_
      refine rd 16 fun KK hKK => ?_
      go_simp
      refine ho hKK (S.c6 0 rfl) fun hS => ?_
      clear hKK KK
      refine wpAnyH_done (by kernel_rfl) ?_ _
      obtain ⟨c4_0, c4_1, c4_2⟩ := S.c3 4 rfl; obtain ⟨c5_0, c5_1, c5_2⟩ := S.c3 5 rfl; go_wp2_with fail
      generalize (.tuple #[.agg #[.bool b36, .slice p36 l36 K36, .int .i64 e36], .int .i64 0] : Value) = g5
      clear c4_0 c4_1 c4_2 c5_0 c5_1 c5_2
      refine (S.call (dcompare_any (L := 201) (H := 521) ⟨b34, p34, l34, K34, m34, e34, rfl, h34, n34, d34⟩ ⟨b35, p35, l35, K35, m35, e35, rfl, h35, n35, d35⟩ (by decide) 0 (cmpR_eq pp))).mono ?_
      clear S
      rintro e w20 ⟨rfl, S, H⟩
      refine iv8 H n1 n2 n21 d21 n31 n22 d22 n32 ?_; clear n1 n2 n21 d21 n31 n22 d22 n32; intro n1 n2 n21 d21 n31 n22 d22 n32; refine iv8 H n33 n34 n35 n36 n41 n42 n43 n44 ?_; clear n33 n34 n35 n36 n41 n42 n43 n44; intro n33 n34 n35 n36 n41 n42 n43 n44
      clear H; obtain ⟨c4_0, c4_1, c4_2⟩ := S.c3 4 rfl; obtain ⟨c5_0, c5_1, c5_2⟩ := S.c3 5 rfl; clear c4_0 c4_1 c4_2 c5_0 c5_1 c5_2; obtain ⟨c0_0, c0_1, c0_2, c0_3, c0_4, c0_5⟩ := S.c6 0 rfl; obtain ⟨c6_0, c6_1, c6_2⟩ := S.c3 6 rfl; go_wp2_with fail; clear c0_0 c0_1 c0_2 c0_3 c0_4 c0_5 c6_0 c6_1 c6_2
      refine (S.call (dcompare_any (L := 200) (H := 522) ⟨b36, p36, l36, K36, m36, e36, rfl, h36, n36, d36⟩ (IsD.mono (L := 200) (H := 520) (L' := 200) (H' := 522) ⟨b2, p2, l2, K2, m2, e2, rfl, h2, n2, d2⟩ (by decide) (by decide)) (by decide) 0 (cmpR_eq x2))).mono ?_
      clear S
      rintro e w21 ⟨rfl, S, H⟩
      refine iv8 H n1 n2 n21 d21 n31 n22 d22 n32 ?_; clear n1 n2 n21 d21 n31 n22 d22 n32; intro n1 n2 n21 d21 n31 n22 d22 n32; refine iv8 H n33 n34 n35 n36 n41 n42 n43 n44 ?_; clear n33 n34 n35 n36 n41 n42 n43 n44; intro n33 n34 n35 n36 n41 n42 n43 n44
      clear H; obtain ⟨c0_0, c0_1, c0_2, c0_3, c0_4, c0_5⟩ := S.c6 0 rfl; obtain ⟨c6_0, c6_1, c6_2⟩ := S.c3 6 rfl; clear c0_0 c0_1 c0_2 c0_3 c0_4 c0_5 c6_0 c6_1 c6_2; go_wp2_with fail
      exact bodyPost_ret (v := .bool true) (by simp [results, Tryz.f6, go_sem]) rfl (⟨rfl, S.below⟩)
    ·
      have HC := Lib.hid (show cmpR sz x1.abs = 0 by rw [← HS.out]; unfold max2; rw [if_neg hlt]; exact cmpR_eq _)
      clear hlt; clear c0_0 c0_1 c0_2 c0_3 c0_4 c0_5 c2_0 c2_1 c2_2; obtain ⟨c0_0, c0_1, c0_2, c0_3, c0_4, c0_5⟩ := S.c6 0 rfl
      go_upto_region 14 with fail
      clear c0_0 c0_1 c0_2 c0_3 c0_4 c0_5
      replace n1 := n1.hold (Hold.drew _); replace n2 := n2.hold (Hold.drew _); replace n21 := n21.hold (Hold.drew _); replace d21 := d21.hold (Hold.drew _); replace n31 := n31.hold (Hold.drew _); replace n22 := n22.hold (Hold.drew _); replace d22 := d22.hold (Hold.drew _); replace n32 := n32.hold (Hold.drew _); replace n33 := n33.hold (Hold.drew _); replace n34 := n34.hold (Hold.drew _); replace n35 := n35.hold (Hold.drew _); replace n36 := n36.hold (Hold.drew _)
      replace S := S.drew
      refine wp_region_held_drew (S := fun W => W.cell? ⟨w.heap.size, 0, none⟩ = some (.bool b1) ∧ W.cell? ⟨w.heap.size, 1, none⟩ = some (.slice p1 l1 K1) ∧ W.cell? ⟨w.heap.size, 2, none⟩ = some (.int .i64 e1) ∧ W.cell? ⟨w.heap.size, 3, none⟩ = some (.bool b2) ∧ W.cell? ⟨w.heap.size, 4, none⟩ = some (.slice p2 l2 K2) ∧ W.cell? ⟨w.heap.size, 5, none⟩ = some (.int .i64 e2)) (by kernel_rfl) (S.c6 0 rfl) (fun hS => ?_)
      refine tk 0 hS ?_
      refine tk 2 hS ?_
      refine tk 3 hS ?_
      refine rd 1 fun KK hKK => ?_
      go_simp
      refine (S.call (ssize_any (L := 200) (H := 520) ⟨b1, p1, l1, K1, m1, e1, b2, p2, l2, K2, m2, e2, rfl, h1, n1, d1, h2, n2, d2⟩ (by decide))).mono ?_; clear S; rintro e w14 ⟨⟨_, rfl, b41, p41, l41, K41, m41, e41, rfl, h41, n41, d41⟩, S, H⟩; refine iv8 H n1 n2 n21 d21 n31 n22 d22 n32 ?_; clear n1 n2 n21 d21 n31 n22 d22 n32; intro n1 n2 n21 d21 n31 n22 d22 n32; refine iv4 H n33 n34 n35 n36 ?_; clear n33 n34 n35 n36; intro n33 n34 n35 n36; clear H; rw [HS.out] at d41
      go_wp2_with fail
      refine ho hKK (S.c6 0 rfl) fun hS => ?_
      clear hKK KK
      refine rd 4 fun KK hKK => ?_
      go_simp
      refine (S.call (dabs_any (L := 200) (H := 520) ⟨b1, p1, l1, K1, m1, e1, rfl, h1, n1, d1⟩ (by decide))).mono ?_; clear S; rintro e w15 ⟨⟨_, rfl, b42, p42, l42, K42, m42, e42, rfl, h42, n42, d42⟩, S, H⟩; refine iv8 H n1 n2 n21 d21 n31 n22 d22 n32 ?_; clear n1 n2 n21 d21 n31 n22 d22 n32; intro n1 n2 n21 d21 n31 n22 d22 n32; refine iv5 H n33 n34 n35 n36 n41 ?_; clear n33 n34 n35 n36 n41; intro n33 n34 n35 n36 n41; clear H
      go_wp2_with fail
      refine ho hKK (S.c6 0 rfl) fun hS => ?_
      clear hKK KK
      refine rd 5 fun KK hKK => ?_
      go_simp
      refine (S.call (dcompare_any (L := 200) (H := 520) ⟨b41, p41, l41, K41, m41, e41, rfl, h41, n41, d41⟩ ⟨b42, p42, l42, K42, m42, e42, rfl, h42, n42, d42⟩ (by decide) 0 HC.out)).mono ?_; clear S; rintro e w16 ⟨rfl, S, H⟩; refine iv8 H n1 n2 n21 d21 n31 n22 d22 n32 ?_; clear n1 n2 n21 d21 n31 n22 d22 n32; intro n1 n2 n21 d21 n31 n22 d22 n32; refine iv6 H n33 n34 n35 n36 n41 n42 ?_; clear n33 n34 n35 n36 n41 n42; intro n33 n34 n35 n36 n41 n42; clear H
      go_wp2_with fail
      refine ho hKK (S.c6 0 rfl) fun hS => ?_
      clear hKK KK
      refine tk 6 hS ?_
      refine tk 7 hS ?_
      refine wpAnyH_take (i := 8) (v := undef) (opOf rfl) (by kernel_rfl) (by kernel_rfl) (by kernel_rfl) (fun _ _ _ h => h) (Or.inr ⟨rfl, rfl⟩) hS ?_
      try simp only [Act.put, List.setIfInBounds_toArray, List.set_cons_zero, List.set_cons_succ]
      refine wpAnyH_take (i := 9) (v := undef) (opOf rfl) (by kernel_rfl) (by kernel_rfl) (by kernel_rfl) (fun _ _ _ h => h) (Or.inr ⟨rfl, rfl⟩) hS ?_
      try simp only [Act.put, List.setIfInBounds_toArray, List.set_cons_zero, List.set_cons_succ]
      refine wpAnyH_take (i := 10) (v := undef) (opOf rfl) (by kernel_rfl) (by kernel_rfl) (by kernel_rfl) (fun _ _ _ h => h) (Or.inr ⟨rfl, rfl⟩) hS ?_
      try simp only [Act.put, List.setIfInBounds_toArray, List.set_cons_zero, List.set_cons_succ]
      refine wpAnyH_take (i := 11) (v := undef) (opOf rfl) (by kernel_rfl) (by kernel_rfl) (by kernel_rfl) (fun _ _ _ h => h) (Or.inr ⟨rfl, rfl⟩) hS ?_
      try simp only [Act.put, List.setIfInBounds_toArray, List.set_cons_zero, List.set_cons_succ]
      refine wpAnyH_take (i := 12) (v := undef) (opOf rfl) (by kernel_rfl) (by kernel_rfl) (by kernel_rfl) (fun _ _ _ h => h) (Or.inr ⟨rfl, rfl⟩) hS ?_
      try simp only [Act.put, List.setIfInBounds_toArray, List.set_cons_zero, List.set_cons_succ]
      refine wpAnyH_take (i := 13) (v := undef) (opOf rfl) (by kernel_rfl) (by kernel_rfl) (by kernel_rfl) (fun _ _ _ h => h) (Or.inr ⟨rfl, rfl⟩) hS ?_
      try simp only [Act.put, List.setIfInBounds_toArray, List.set_cons_zero, List.set_cons_succ]
      refine wpAnyH_take (i := 14) (v := undef) (opOf rfl) (by kernel_rfl) (by kernel_rfl) (by kernel_rfl) (fun _ _ _ h => h) (Or.inr ⟨rfl, rfl⟩) hS ?_
      try simp only [Act.put, List.setIfInBounds_toArray, List.set_cons_zero, List.set_cons_succ]
      refine tk 15 hS ?_
      refine rd 16 fun KK hKK => ?_
      go_simp
      refine ho hKK (S.c6 0 rfl) fun hS => ?_
      clear hKK KK
      refine wpAnyH_done (by kernel_rfl) ?_ _
      obtain ⟨c4_0, c4_1, c4_2⟩ := S.c3 4 rfl; obtain ⟨c5_0, c5_1, c5_2⟩ := S.c3 5 rfl; go_wp2_with fail
      generalize (.tuple #[.agg #[.bool b36, .slice p36 l36 K36, .int .i64 e36], .int .i64 0] : Value) = g5
      clear c4_0 c4_1 c4_2 c5_0 c5_1 c5_2
      refine (S.call (dcompare_any (L := 201) (H := 521) ⟨b34, p34, l34, K34, m34, e34, rfl, h34, n34, d34⟩ ⟨b35, p35, l35, K35, m35, e35, rfl, h35, n35, d35⟩ (by decide) 0 (cmpR_eq pp))).mono ?_
      clear S
      rintro e w17 ⟨rfl, S, H⟩
      refine iv8 H n1 n2 n21 d21 n31 n22 d22 n32 ?_; clear n1 n2 n21 d21 n31 n22 d22 n32; intro n1 n2 n21 d21 n31 n22 d22 n32; refine iv6 H n33 n34 n35 n36 n41 n42 ?_; clear n33 n34 n35 n36 n41 n42; intro n33 n34 n35 n36 n41 n42
      clear H; obtain ⟨c4_0, c4_1, c4_2⟩ := S.c3 4 rfl; obtain ⟨c5_0, c5_1, c5_2⟩ := S.c3 5 rfl; clear c4_0 c4_1 c4_2 c5_0 c5_1 c5_2; obtain ⟨c0_0, c0_1, c0_2, c0_3, c0_4, c0_5⟩ := S.c6 0 rfl; obtain ⟨c6_0, c6_1, c6_2⟩ := S.c3 6 rfl; go_wp2_with fail; clear c0_0 c0_1 c0_2 c0_3 c0_4 c0_5 c6_0 c6_1 c6_2
      refine (S.call (dcompare_any (L := 200) (H := 522) ⟨b36, p36, l36, K36, m36, e36, rfl, h36, n36, d36⟩ (IsD.mono (L := 200) (H := 520) (L' := 200) (H' := 522) ⟨b2, p2, l2, K2, m2, e2, rfl, h2, n2, d2⟩ (by decide) (by decide)) (by decide) 0 (cmpR_eq x2))).mono ?_
      clear S
      rintro e w18 ⟨rfl, S, H⟩
      refine iv8 H n1 n2 n21 d21 n31 n22 d22 n32 ?_; clear n1 n2 n21 d21 n31 n22 d22 n32; intro n1 n2 n21 d21 n31 n22 d22 n32; refine iv6 H n33 n34 n35 n36 n41 n42 ?_; clear n33 n34 n35 n36 n41 n42; intro n33 n34 n35 n36 n41 n42
      clear H; obtain ⟨c0_0, c0_1, c0_2, c0_3, c0_4, c0_5⟩ := S.c6 0 rfl; obtain ⟨c6_0, c6_1, c6_2⟩ := S.c3 6 rfl; clear c0_0 c0_1 c0_2 c0_3 c0_4 c0_5 c6_0 c6_1 c6_2; go_wp2_with fail
      exact bodyPost_ret (v := .bool true) (by simp [results, Tryz.f6, go_sem]) rfl (⟨rfl, S.below⟩)
end Go.Proofs.YtcdmojefheipoaaGreatDoor
