/-
  What the statement stands on.
-/
import Derived.Test.YtcdmojefheipoaaGreatDoorM28
import Derived.Test.YtcdmojefheipoaaGreatDoorM41
namespace Go.Proofs.YtcdmojefheipoaaGreatDoor
open Go.RowKit
theorem cmpR_ne {x y : Rat} (h : ¬ x = y) : (cmpR x y == 0) = false := by
  rcases rat_three x y with h1 | h1 | h1
  · rw [cmpR_lt h1]; rfl
  · exact absurd h1 h
  · rw [cmpR_gt h1]; rfl
theorem bnd_lo {x y u v : Rat} {L H : Nat} (h1 : Bnd x L H) (h2 : Bnd y L H) (h3 : Bnd u L H) (h4 : Bnd v L H) : Bnd (loM x y u v) (L + L) (H + H) := by
  rcases loM_or x y u v with h | h | h | h <;> rw [h]
  · exact h1.mul h3
  · exact h1.mul h4
  · exact h2.mul h3
  · exact h2.mul h4
theorem bnd_hi {x y u v : Rat} {L H : Nat} (h1 : Bnd x L H) (h2 : Bnd y L H) (h3 : Bnd u L H) (h4 : Bnd v L H) : Bnd (hiM x y u v) (L + L) (H + H) := by
  rcases hiM_or x y u v with h | h | h | h <;> rw [h]
  · exact h1.mul h3
  · exact h1.mul h4
  · exact h2.mul h3
  · exact h2.mul h4
set_option maxRecDepth 100000 in
set_option maxHeartbeats 16000000 in
theorem spanTight_any (b1 : Bool) (p1 : Option Addr) (K1 : Nat) (ds1 : List Nat) (e1 : Int) (b2 : Bool) (p2 : Option Addr) (K2 : Nat) (ds2 : List Nat) (e2 : Int) (b3 : Bool) (p3 : Option Addr) (K3 : Nat) (ds3 : List Nat) (e3 : Int) (b4 : Bool) (p4 : Option Addr) (K4 : Nat) (ds4 : List Nat) (e4 : Int) (w : World) (hT : Tab w) (at1 : At .u32 w p1 K1 ds1) (dd1 : Dig 4294967296 ds1) (at2 : At .u32 w p2 K2 ds2) (dd2 : Dig 4294967296 ds2) (at3 : At .u32 w p3 K3 ds3) (dd3 : Dig 4294967296 ds3) (at4 : At .u32 w p4 K4 ds4) (dd4 : Dig 4294967296 ds4) :
    Calls Tryz.prog 4 #[.agg #[.bool b1, .slice p1 ds1.length K1, .int .i64 e1, .bool b2, .slice p2 ds2.length K2, .int .i64 e2], .agg #[.bool b3, .slice p3 ds3.length K3, .int .i64 e3, .bool b4, .slice p4 ds4.length K4, .int .i64 e4]] w fun e w' => e = .returned (.bool true) ∧ Below w.heap.size w w' := by
  have HT := Lib.hid hT
  have HD1 := Lib.hid dd1
  obtain ⟨l1, hl1⟩ : ∃ l, ds1.length = l := ⟨_, rfl⟩
  have HL1 := Lib.hid hl1
  rw [hl1]
  have HD2 := Lib.hid dd2
  obtain ⟨l2, hl2⟩ : ∃ l, ds2.length = l := ⟨_, rfl⟩
  have HL2 := Lib.hid hl2
  rw [hl2]
  have HD3 := Lib.hid dd3
  obtain ⟨l3, hl3⟩ : ∃ l, ds3.length = l := ⟨_, rfl⟩
  have HL3 := Lib.hid hl3
  rw [hl3]
  have HD4 := Lib.hid dd4
  obtain ⟨l4, hl4⟩ : ∃ l, ds4.length = l := ⟨_, rfl⟩
  have HL4 := Lib.hid hl4
  rw [hl4]
  clear hT dd1 hl1 dd2 hl2 dd3 hl3 dd4 hl4
  have S := ((St.start w).alloc 29 [.bool b1, .slice p1 l1 K1, .int .i64 e1, .bool b2, .slice p2 l2 K2, .int .i64 e2] (w.heap.size)).alloc 29 [.bool b3, .slice p3 l3 K3, .int .i64 e3, .bool b4, .slice p4 l4 K4, .int .i64 e4] (w.heap.size + 1)
  try simp only [List.cons_append, List.nil_append] at S
  refine iv4 S.hold at1 at2 at3 at4 ?_; clear at1 at2 at3 at4; intro at1 at2 at3 at4
  obtain ⟨c0_0, c0_1, c0_2, c0_3, c0_4, c0_5⟩ := S.c6 0 rfl; obtain ⟨c1_0, c1_1, c1_2, c1_3, c1_4, c1_5⟩ := S.c6 1 rfl
  go_enter Tryz.func4, Tryz.ntmps4
  go_wp2_with fail; clear c0_0 c0_1 c0_2 c0_3 c0_4 c0_5 c1_0 c1_1 c1_2 c1_3 c1_4 c1_5
  refine (S.call (between_any _ (HT.out.below S.below))).mono ?_
  clear S
  rintro e w1 ⟨rfl, S, H⟩
  refine iv4 H at1 at2 at3 at4 ?_; clear at1 at2 at3 at4; intro at1 at2 at3 at4
  clear H; obtain ⟨c0_0, c0_1, c0_2, c0_3, c0_4, c0_5⟩ := S.c6 0 rfl; obtain ⟨c1_0, c1_1, c1_2, c1_3, c1_4, c1_5⟩ := S.c6 1 rfl
  have H := S.hnew 29 [.bool b1, .slice p1 l1 K1, .int .i64 e1, .bool b2, .slice p2 l2 K2, .int .i64 e2, .bool b3, .slice p3 l3 K3, .int .i64 e3, .bool b4, .slice p4 l4 K4, .int .i64 e4]
  replace S := S.al 29 [.bool b1, .slice p1 l1 K1, .int .i64 e1, .bool b2, .slice p2 l2 K2, .int .i64 e2, .bool b3, .slice p3 l3 K3, .int .i64 e3, .bool b4, .slice p4 l4 K4, .int .i64 e4] (w1.heap.size)
  refine iv4 H at1 at2 at3 at4 ?_; clear at1 at2 at3 at4; intro at1 at2 at3 at4
  clear H; go_wp2_with fail; clear c0_0 c0_1 c0_2 c0_3 c0_4 c0_5 c1_0 c1_1 c1_2 c1_3 c1_4 c1_5
  refine (S.call (sfit_at _ 2 _ _ (HT.out.below S.below) (S.lt 2 rfl) (by decide) (spraw2 S 2 rfl HL1.out HL2.out HL3.out HL4.out at1 HD1.out at2 HD2.out at3 HD3.out at4 HD4.out))).mono ?_
  clear S
  rintro e w2 ⟨⟨ok, rfl, hok⟩, S, H⟩
  refine iv4 H at1 at2 at3 at4 ?_; clear at1 at2 at3 at4; intro at1 at2 at3 at4
  clear H; obtain ⟨c0_0, c0_1, c0_2, c0_3, c0_4, c0_5⟩ := S.c6 0 rfl; obtain ⟨c1_0, c1_1, c1_2, c1_3, c1_4, c1_5⟩ := S.c6 1 rfl
  cases ok with
  | false =>
    go_wp2_with fail
    exact bodyPost_ret (v := .bool true) (by simp [results, Tryz.f4, go_sem]) rfl (⟨rfl, S.below⟩)
  | true =>
    obtain ⟨t1, t2, t1x⟩ : TriedS ⟨b1, b2, p1, p2, ds1, ds2, K1, K2, e1, e2⟩ := hok.out rfl 0 (by decide)
    obtain ⟨x1, hx1⟩ : ∃ x, rawQ b1 ds1 e1 = x := ⟨_, rfl⟩
    obtain ⟨m1, h1, n1, d1⟩ := raw_num hx1 t1 HD1.out HL1.out at1
    obtain ⟨x2, hx2⟩ : ∃ x, rawQ b2 ds2 e2 = x := ⟨_, rfl⟩
    obtain ⟨m2, h2, n2, d2⟩ := raw_num hx2 t2 HD2.out HL2.out at2
    have g1 : x1 ≤ x2 := by rw [← hx1, ← hx2]; exact Rat.not_lt.1 t1x
    clear t1 t2 t1x hx1 hx2
    obtain ⟨t3, t4, t3x⟩ : TriedS ⟨b3, b4, p3, p4, ds3, ds4, K3, K4, e3, e4⟩ := hok.out rfl 1 (by decide)
    obtain ⟨x3, hx3⟩ : ∃ x, rawQ b3 ds3 e3 = x := ⟨_, rfl⟩
    obtain ⟨m3, h3, n3, d3⟩ := raw_num hx3 t3 HD3.out HL3.out at3
    obtain ⟨x4, hx4⟩ : ∃ x, rawQ b4 ds4 e4 = x := ⟨_, rfl⟩
    obtain ⟨m4, h4, n4, d4⟩ := raw_num hx4 t4 HD4.out HL4.out at4
    have g3 : x3 ≤ x4 := by rw [← hx3, ← hx4]; exact Rat.not_lt.1 t3x
    clear t3 t4 t3x hx3 hx4
    have G := Lib.hid (And.intro g1 g3)
    clear hok g1 g3; clear at1 at2 at3 at4; clear c0_0 c0_1 c0_2 c0_3 c0_4 c0_5 c1_0 c1_1 c1_2 c1_3 c1_4 c1_5
    replace S := S.take 2 (L := [(w.heap.size, 29, [.bool b1, .slice p1 l1 K1, .int .i64 e1, .bool b2, .slice p2 l2 K2, .int .i64 e2]), (w.heap.size + 1, 29, [.bool b3, .slice p3 l3 K3, .int .i64 e3, .bool b4, .slice p4 l4 K4, .int .i64 e4])]) rfl
    have B1 : Bnd x1 200 520 := ⟨_, _, d1.out⟩
    have B2 : Bnd x2 200 520 := ⟨_, _, d2.out⟩
    have B3 : Bnd x3 200 520 := ⟨_, _, d3.out⟩
    have B4 : Bnd x4 200 520 := ⟨_, _, d4.out⟩
    have HE := Lib.hid (And.intro ((B1.add B3).same (n := 4000) (by decide) false) (And.intro ((B2.add B4).same (n := 4000) (by decide) true) (And.intro ((B1.add B4.neg).same (n := 4000) (by decide) false) (And.intro ((B2.add B3.neg).same (n := 4000) (by decide) true) (And.intro ((bnd_lo B1 B2 B3 B4).same (n := 4000) (by decide) false) ((bnd_hi B1 B2 B3 B4).same (n := 4000) (by decide) true))))))
    clear B1 B2 B3 B4
    obtain ⟨lo, hlo⟩ : ∃ q, loM x1 x2 x3 x4 = q := ⟨_, rfl⟩
    obtain ⟨hi, hhi⟩ : ∃ q, hiM x1 x2 x3 x4 = q := ⟨_, rfl⟩
    have HP := Lib.hid (And.intro hlo hhi)
    clear hlo hhi; obtain ⟨c0_0, c0_1, c0_2, c0_3, c0_4, c0_5⟩ := S.c6 0 rfl; obtain ⟨c1_0, c1_1, c1_2, c1_3, c1_4, c1_5⟩ := S.c6 1 rfl; go_wp2_with fail; clear c0_0 c0_1 c0_2 c0_3 c0_4 c0_5 c1_0 c1_1 c1_2 c1_3 c1_4 c1_5
    refine (S.call (sadd_v (L := 200) (H := 520) (HT.out.below S.below) ⟨b1, p1, l1, K1, m1, e1, b2, p2, l2, K2, m2, e2, rfl, h1, n1, d1, h2, n2, d2⟩ ⟨b3, p3, l3, K3, m3, e3, b4, p4, l4, K4, m4, e4, rfl, h3, n3, d3, h4, n4, d4⟩ (by decide) 4000 (by decide) (by decide) HE.out.1 HE.out.2.1)).mono ?_
    clear S
    rintro e w3 ⟨⟨_, rfl, b11, p11, l11, K11, m11, e11, b12, p12, l12, K12, m12, e12, rfl, h11, n11, d11, h12, n12, d12⟩, S, H⟩
    refine iv4 H n1 n2 n3 n4 ?_; clear n1 n2 n3 n4; intro n1 n2 n3 n4
    clear H; obtain ⟨c0_0, c0_1, c0_2, c0_3, c0_4, c0_5⟩ := S.c6 0 rfl; obtain ⟨c1_0, c1_1, c1_2, c1_3, c1_4, c1_5⟩ := S.c6 1 rfl
    have H := S.hnew 29 [.bool b11, .slice p11 l11 K11, .int .i64 e11, .bool b12, .slice p12 l12 K12, .int .i64 e12]
    replace S := S.al 29 [.bool b11, .slice p11 l11 K11, .int .i64 e11, .bool b12, .slice p12 l12 K12, .int .i64 e12] (w3.heap.size)
    refine iv6 H n1 n2 n3 n4 n11 n12 ?_; clear n1 n2 n3 n4 n11 n12; intro n1 n2 n3 n4 n11 n12
    clear H; clear c0_0 c0_1 c0_2 c0_3 c0_4 c0_5 c1_0 c1_1 c1_2 c1_3 c1_4 c1_5; obtain ⟨c0_0, c0_1, c0_2, c0_3, c0_4, c0_5⟩ := S.c6 0 rfl; obtain ⟨c1_0, c1_1, c1_2, c1_3, c1_4, c1_5⟩ := S.c6 1 rfl; go_wp2_with fail
    generalize (.tuple #[.agg #[.bool b11, .slice p11 l11 K11, .int .i64 e11, .bool b12, .slice p12 l12 K12, .int .i64 e12], .int .i64 0] : Value) = g1
    clear c0_0 c0_1 c0_2 c0_3 c0_4 c0_5 c1_0 c1_1 c1_2 c1_3 c1_4 c1_5
    refine (S.call (ssub_v (L := 200) (H := 520) (HT.out.below S.below) ⟨b1, p1, l1, K1, m1, e1, b2, p2, l2, K2, m2, e2, rfl, h1, n1, d1, h2, n2, d2⟩ ⟨b3, p3, l3, K3, m3, e3, b4, p4, l4, K4, m4, e4, rfl, h3, n3, d3, h4, n4, d4⟩ (by decide) 4000 (by decide) (by decide) HE.out.2.2.1 HE.out.2.2.2.1)).mono ?_
    clear S
    rintro e w4 ⟨⟨_, rfl, b13, p13, l13, K13, m13, e13, b14, p14, l14, K14, m14, e14, rfl, h13, n13, d13, h14, n14, d14⟩, S, H⟩
    refine iv6 H n1 n2 n3 n4 n11 n12 ?_; clear n1 n2 n3 n4 n11 n12; intro n1 n2 n3 n4 n11 n12
    clear H; obtain ⟨c0_0, c0_1, c0_2, c0_3, c0_4, c0_5⟩ := S.c6 0 rfl; obtain ⟨c1_0, c1_1, c1_2, c1_3, c1_4, c1_5⟩ := S.c6 1 rfl
    have H := S.hnew 29 [.bool b13, .slice p13 l13 K13, .int .i64 e13, .bool b14, .slice p14 l14 K14, .int .i64 e14]
    replace S := S.al 29 [.bool b13, .slice p13 l13 K13, .int .i64 e13, .bool b14, .slice p14 l14 K14, .int .i64 e14] (w4.heap.size)
    refine iv8 H n1 n2 n3 n4 n11 n12 n13 n14 ?_; clear n1 n2 n3 n4 n11 n12 n13 n14; intro n1 n2 n3 n4 n11 n12 n13 n14
    clear H; clear c0_0 c0_1 c0_2 c0_3 c0_4 c0_5 c1_0 c1_1 c1_2 c1_3 c1_4 c1_5; obtain ⟨c0_0, c0_1, c0_2, c0_3, c0_4, c0_5⟩ := S.c6 0 rfl; obtain ⟨c1_0, c1_1, c1_2, c1_3, c1_4, c1_5⟩ := S.c6 1 rfl; go_wp2_with fail
    generalize (.tuple #[.agg #[.bool b13, .slice p13 l13 K13, .int .i64 e13, .bool b14, .slice p14 l14 K14, .int .i64 e14], .int .i64 0] : Value) = g2
    clear c0_0 c0_1 c0_2 c0_3 c0_4 c0_5 c1_0 c1_1 c1_2 c1_3 c1_4 c1_5
    refine (S.call (smul_v (L := 200) (H := 520) (HT.out.below S.below) ⟨b1, p1, l1, K1, m1, e1, b2, p2, l2, K2, m2, e2, rfl, h1, n1, d1, h2, n2, d2⟩ ⟨b3, p3, l3, K3, m3, e3, b4, p4, l4, K4, m4, e4, rfl, h3, n3, d3, h4, n4, d4⟩ (by decide) 4000 (by decide) (by decide) (HE.out.2.2.2.2.1.trans HP.out.1) (HE.out.2.2.2.2.2.trans HP.out.2))).mono ?_
    clear S
    rintro e w5 ⟨⟨_, rfl, b15, p15, l15, K15, m15, e15, b16, p16, l16, K16, m16, e16, rfl, h15, n15, d15, h16, n16, d16⟩, S, H⟩
    refine iv8 H n1 n2 n3 n4 n11 n12 n13 n14 ?_; clear n1 n2 n3 n4 n11 n12 n13 n14; intro n1 n2 n3 n4 n11 n12 n13 n14
    clear H; obtain ⟨c0_0, c0_1, c0_2, c0_3, c0_4, c0_5⟩ := S.c6 0 rfl; obtain ⟨c1_0, c1_1, c1_2, c1_3, c1_4, c1_5⟩ := S.c6 1 rfl
    have H := S.hnew 29 [.bool b15, .slice p15 l15 K15, .int .i64 e15, .bool b16, .slice p16 l16 K16, .int .i64 e16]
    replace S := S.al 29 [.bool b15, .slice p15 l15 K15, .int .i64 e15, .bool b16, .slice p16 l16 K16, .int .i64 e16] (w5.heap.size)
    refine iv8 H n1 n2 n3 n4 n11 n12 n13 n14 ?_; clear n1 n2 n3 n4 n11 n12 n13 n14; intro n1 n2 n3 n4 n11 n12 n13 n14; refine iv2 H n15 n16 ?_; clear n15 n16; intro n15 n16
    clear H; clear c0_0 c0_1 c0_2 c0_3 c0_4 c0_5 c1_0 c1_1 c1_2 c1_3 c1_4 c1_5; obtain ⟨c0_0, c0_1, c0_2, c0_3, c0_4, c0_5⟩ := S.c6 0 rfl; obtain ⟨c1_0, c1_1, c1_2, c1_3, c1_4, c1_5⟩ := S.c6 1 rfl; go_wp2_with fail
    generalize (.tuple #[.agg #[.bool b15, .slice p15 l15 K15, .int .i64 e15, .bool b16, .slice p16 l16 K16, .int .i64 e16], .int .i64 0] : Value) = g3
    clear c0_0 c0_1 c0_2 c0_3 c0_4 c0_5 c1_0 c1_1 c1_2 c1_3 c1_4 c1_5
    refine (S.call (dadd_any (L := 200) (H := 520) (HT.out.below S.below) ⟨b1, p1, l1, K1, m1, e1, rfl, h1, n1, d1⟩ ⟨b3, p3, l3, K3, m3, e3, rfl, h3, n3, d3⟩ (by decide) (x1 + x3) rfl)).mono ?_
    clear S
    rintro e w6 ⟨⟨_, rfl, b21, p21, l21, K21, m21, e21, rfl, h21, n21, d21⟩, S, H⟩
    refine iv8 H n1 n2 n3 n4 n11 n12 n13 n14 ?_; clear n1 n2 n3 n4 n11 n12 n13 n14; intro n1 n2 n3 n4 n11 n12 n13 n14; refine iv2 H n15 n16 ?_; clear n15 n16; intro n15 n16
    clear H; obtain ⟨c0_0, c0_1, c0_2, c0_3, c0_4, c0_5⟩ := S.c6 0 rfl; obtain ⟨c1_0, c1_1, c1_2, c1_3, c1_4, c1_5⟩ := S.c6 1 rfl
    have H := S.hnew 27 [.bool b21, .slice p21 l21 K21, .int .i64 e21]
    replace S := S.al 27 [.bool b21, .slice p21 l21 K21, .int .i64 e21] (w6.heap.size)
    refine iv8 H n1 n2 n3 n4 n11 n12 n13 n14 ?_; clear n1 n2 n3 n4 n11 n12 n13 n14; intro n1 n2 n3 n4 n11 n12 n13 n14; refine iv3 H n15 n16 n21 ?_; clear n15 n16 n21; intro n15 n16 n21
    clear H; clear c0_0 c0_1 c0_2 c0_3 c0_4 c0_5 c1_0 c1_1 c1_2 c1_3 c1_4 c1_5; obtain ⟨c0_0, c0_1, c0_2, c0_3, c0_4, c0_5⟩ := S.c6 0 rfl; obtain ⟨c1_0, c1_1, c1_2, c1_3, c1_4, c1_5⟩ := S.c6 1 rfl; go_wp2_with fail
    generalize (.tuple #[.agg #[.bool b21, .slice p21 l21 K21, .int .i64 e21], .int .i64 0] : Value) = g4
    clear c0_0 c0_1 c0_2 c0_3 c0_4 c0_5 c1_0 c1_1 c1_2 c1_3 c1_4 c1_5
    refine (S.call (dadd_any (L := 200) (H := 520) (HT.out.below S.below) ⟨b2, p2, l2, K2, m2, e2, rfl, h2, n2, d2⟩ ⟨b4, p4, l4, K4, m4, e4, rfl, h4, n4, d4⟩ (by decide) (x2 + x4) rfl)).mono ?_
    clear S
    rintro e w7 ⟨⟨_, rfl, b22, p22, l22, K22, m22, e22, rfl, h22, n22, d22⟩, S, H⟩
    refine iv8 H n1 n2 n3 n4 n11 n12 n13 n14 ?_; clear n1 n2 n3 n4 n11 n12 n13 n14; intro n1 n2 n3 n4 n11 n12 n13 n14; refine iv3 H n15 n16 n21 ?_; clear n15 n16 n21; intro n15 n16 n21
    clear H; obtain ⟨c0_0, c0_1, c0_2, c0_3, c0_4, c0_5⟩ := S.c6 0 rfl; obtain ⟨c1_0, c1_1, c1_2, c1_3, c1_4, c1_5⟩ := S.c6 1 rfl
    have H := S.hnew 27 [.bool b22, .slice p22 l22 K22, .int .i64 e22]
    replace S := S.al 27 [.bool b22, .slice p22 l22 K22, .int .i64 e22] (w7.heap.size)
    refine iv8 H n1 n2 n3 n4 n11 n12 n13 n14 ?_; clear n1 n2 n3 n4 n11 n12 n13 n14; intro n1 n2 n3 n4 n11 n12 n13 n14; refine iv4 H n15 n16 n21 n22 ?_; clear n15 n16 n21 n22; intro n15 n16 n21 n22
    clear H; clear c0_0 c0_1 c0_2 c0_3 c0_4 c0_5 c1_0 c1_1 c1_2 c1_3 c1_4 c1_5; obtain ⟨c0_0, c0_1, c0_2, c0_3, c0_4, c0_5⟩ := S.c6 0 rfl; obtain ⟨c1_0, c1_1, c1_2, c1_3, c1_4, c1_5⟩ := S.c6 1 rfl; go_wp2_with fail
    generalize (.tuple #[.agg #[.bool b22, .slice p22 l22 K22, .int .i64 e22], .int .i64 0] : Value) = g5
    clear c0_0 c0_1 c0_2 c0_3 c0_4 c0_5 c1_0 c1_1 c1_2 c1_3 c1_4 c1_5
    refine (S.call (dsub_any (L := 200) (H := 520) (HT.out.below S.below) ⟨b1, p1, l1, K1, m1, e1, rfl, h1, n1, d1⟩ ⟨b4, p4, l4, K4, m4, e4, rfl, h4, n4, d4⟩ (by decide) (x1 - x4) rfl)).mono ?_
    clear S
    rintro e w8 ⟨⟨_, rfl, b23, p23, l23, K23, m23, e23, rfl, h23, n23, d23⟩, S, H⟩
    refine iv8 H n1 n2 n3 n4 n11 n12 n13 n14 ?_; clear n1 n2 n3 n4 n11 n12 n13 n14; intro n1 n2 n3 n4 n11 n12 n13 n14; refine iv4 H n15 n16 n21 n22 ?_; clear n15 n16 n21 n22; intro n15 n16 n21 n22
    clear H; obtain ⟨c0_0, c0_1, c0_2, c0_3, c0_4, c0_5⟩ := S.c6 0 rfl; obtain ⟨c1_0, c1_1, c1_2, c1_3, c1_4, c1_5⟩ := S.c6 1 rfl
    have H := S.hnew 27 [.bool b23, .slice p23 l23 K23, .int .i64 e23]
    replace S := S.al 27 [.bool b23, .slice p23 l23 K23, .int .i64 e23] (w8.heap.size)
    refine iv8 H n1 n2 n3 n4 n11 n12 n13 n14 ?_; clear n1 n2 n3 n4 n11 n12 n13 n14; intro n1 n2 n3 n4 n11 n12 n13 n14; refine iv5 H n15 n16 n21 n22 n23 ?_; clear n15 n16 n21 n22 n23; intro n15 n16 n21 n22 n23
    clear H; clear c0_0 c0_1 c0_2 c0_3 c0_4 c0_5 c1_0 c1_1 c1_2 c1_3 c1_4 c1_5; obtain ⟨c0_0, c0_1, c0_2, c0_3, c0_4, c0_5⟩ := S.c6 0 rfl; obtain ⟨c1_0, c1_1, c1_2, c1_3, c1_4, c1_5⟩ := S.c6 1 rfl; go_wp2_with fail
    generalize (.tuple #[.agg #[.bool b23, .slice p23 l23 K23, .int .i64 e23], .int .i64 0] : Value) = g6
    clear c0_0 c0_1 c0_2 c0_3 c0_4 c0_5 c1_0 c1_1 c1_2 c1_3 c1_4 c1_5
    refine (S.call (dsub_any (L := 200) (H := 520) (HT.out.below S.below) ⟨b2, p2, l2, K2, m2, e2, rfl, h2, n2, d2⟩ ⟨b3, p3, l3, K3, m3, e3, rfl, h3, n3, d3⟩ (by decide) (x2 - x3) rfl)).mono ?_
    clear S
    rintro e w9 ⟨⟨_, rfl, b24, p24, l24, K24, m24, e24, rfl, h24, n24, d24⟩, S, H⟩
    refine iv8 H n1 n2 n3 n4 n11 n12 n13 n14 ?_; clear n1 n2 n3 n4 n11 n12 n13 n14; intro n1 n2 n3 n4 n11 n12 n13 n14; refine iv5 H n15 n16 n21 n22 n23 ?_; clear n15 n16 n21 n22 n23; intro n15 n16 n21 n22 n23
    clear H; obtain ⟨c0_0, c0_1, c0_2, c0_3, c0_4, c0_5⟩ := S.c6 0 rfl; obtain ⟨c1_0, c1_1, c1_2, c1_3, c1_4, c1_5⟩ := S.c6 1 rfl
    have H := S.hnew 27 [.bool b24, .slice p24 l24 K24, .int .i64 e24]
    replace S := S.al 27 [.bool b24, .slice p24 l24 K24, .int .i64 e24] (w9.heap.size)
    refine iv8 H n1 n2 n3 n4 n11 n12 n13 n14 ?_; clear n1 n2 n3 n4 n11 n12 n13 n14; intro n1 n2 n3 n4 n11 n12 n13 n14; refine iv6 H n15 n16 n21 n22 n23 n24 ?_; clear n15 n16 n21 n22 n23 n24; intro n15 n16 n21 n22 n23 n24
    clear H; clear c0_0 c0_1 c0_2 c0_3 c0_4 c0_5 c1_0 c1_1 c1_2 c1_3 c1_4 c1_5; obtain ⟨c0_0, c0_1, c0_2, c0_3, c0_4, c0_5⟩ := S.c6 0 rfl; obtain ⟨c1_0, c1_1, c1_2, c1_3, c1_4, c1_5⟩ := S.c6 1 rfl
    have HC := Lib.hid (And.intro (show cmpR (x1 + -x4) (x1 - x4) = 0 by rw [Rat.sub_eq_add_neg]; exact cmpR_eq _) (show cmpR (x2 + -x3) (x2 - x3) = 0 by rw [Rat.sub_eq_add_neg]; exact cmpR_eq _))
    clear c0_0 c0_1 c0_2 c0_3 c0_4 c0_5 c1_0 c1_1 c1_2 c1_3 c1_4 c1_5; obtain ⟨c2_0, c2_1, c2_2, c2_3, c2_4, c2_5⟩ := S.c6 2 rfl; obtain ⟨c5_0, c5_1, c5_2⟩ := S.c3 5 rfl; go_wp2_with fail
    generalize (.tuple #[.agg #[.bool b24, .slice p24 l24 K24, .int .i64 e24], .int .i64 0] : Value) = g7
    clear c2_0 c2_1 c2_2 c2_3 c2_4 c2_5 c5_0 c5_1 c5_2
    refine (S.call (dcompare_any (L := 200) (H := 522) ⟨b11, p11, l11, K11, m11, e11, rfl, h11, n11, d11⟩ (IsD.mono (L := 200) (H := 521) (L' := 200) (H' := 522) ⟨b21, p21, l21, K21, m21, e21, rfl, h21, n21, d21⟩ (by decide) (by decide)) (by decide) 0 (cmpR_eq _))).mono ?_
    clear S
    rintro e w10 ⟨rfl, S, H⟩
    refine iv8 H n1 n2 n3 n4 n11 n12 n13 n14 ?_; clear n1 n2 n3 n4 n11 n12 n13 n14; intro n1 n2 n3 n4 n11 n12 n13 n14; refine iv6 H n15 n16 n21 n22 n23 n24 ?_; clear n15 n16 n21 n22 n23 n24; intro n15 n16 n21 n22 n23 n24
    clear H; obtain ⟨c2_0, c2_1, c2_2, c2_3, c2_4, c2_5⟩ := S.c6 2 rfl; obtain ⟨c5_0, c5_1, c5_2⟩ := S.c3 5 rfl; clear c2_0 c2_1 c2_2 c2_3 c2_4 c2_5 c5_0 c5_1 c5_2; obtain ⟨c2_0, c2_1, c2_2, c2_3, c2_4, c2_5⟩ := S.c6 2 rfl; obtain ⟨c6_0, c6_1, c6_2⟩ := S.c3 6 rfl; go_wp2_with fail; clear c2_0 c2_1 c2_2 c2_3 c2_4 c2_5 c6_0 c6_1 c6_2
    refine (S.call (dcompare_any (L := 200) (H := 522) ⟨b12, p12, l12, K12, m12, e12, rfl, h12, n12, d12⟩ (IsD.mono (L := 200) (H := 521) (L' := 200) (H' := 522) ⟨b22, p22, l22, K22, m22, e22, rfl, h22, n22, d22⟩ (by decide) (by decide)) (by decide) 0 (cmpR_eq _))).mono ?_
    clear S
    rintro e w11 ⟨rfl, S, H⟩
    refine iv8 H n1 n2 n3 n4 n11 n12 n13 n14 ?_; clear n1 n2 n3 n4 n11 n12 n13 n14; intro n1 n2 n3 n4 n11 n12 n13 n14; refine iv6 H n15 n16 n21 n22 n23 n24 ?_; clear n15 n16 n21 n22 n23 n24; intro n15 n16 n21 n22 n23 n24
    clear H; obtain ⟨c2_0, c2_1, c2_2, c2_3, c2_4, c2_5⟩ := S.c6 2 rfl; obtain ⟨c6_0, c6_1, c6_2⟩ := S.c3 6 rfl; clear c2_0 c2_1 c2_2 c2_3 c2_4 c2_5 c6_0 c6_1 c6_2; obtain ⟨c3_0, c3_1, c3_2, c3_3, c3_4, c3_5⟩ := S.c6 3 rfl; obtain ⟨c7_0, c7_1, c7_2⟩ := S.c3 7 rfl; go_wp2_with fail; clear c3_0 c3_1 c3_2 c3_3 c3_4 c3_5 c7_0 c7_1 c7_2
    refine (S.call (dcompare_any (L := 200) (H := 522) ⟨b13, p13, l13, K13, m13, e13, rfl, h13, n13, d13⟩ (IsD.mono (L := 200) (H := 521) (L' := 200) (H' := 522) ⟨b23, p23, l23, K23, m23, e23, rfl, h23, n23, d23⟩ (by decide) (by decide)) (by decide) 0 HC.out.1)).mono ?_
    clear S
    rintro e w12 ⟨rfl, S, H⟩
    refine iv8 H n1 n2 n3 n4 n11 n12 n13 n14 ?_; clear n1 n2 n3 n4 n11 n12 n13 n14; intro n1 n2 n3 n4 n11 n12 n13 n14; refine iv6 H n15 n16 n21 n22 n23 n24 ?_; clear n15 n16 n21 n22 n23 n24; intro n15 n16 n21 n22 n23 n24
    clear H; obtain ⟨c3_0, c3_1, c3_2, c3_3, c3_4, c3_5⟩ := S.c6 3 rfl; obtain ⟨c7_0, c7_1, c7_2⟩ := S.c3 7 rfl; clear c3_0 c3_1 c3_2 c3_3 c3_4 c3_5 c7_0 c7_1 c7_2; obtain ⟨c3_0, c3_1, c3_2, c3_3, c3_4, c3_5⟩ := S.c6 3 rfl; obtain ⟨c8_0, c8_1, c8_2⟩ := S.c3 8 rfl; go_wp2_with fail; clear c3_0 c3_1 c3_2 c3_3 c3_4 c3_5 c8_0 c8_1 c8_2
    refine (S.call (dcompare_any (L := 200) (H := 522) ⟨b14, p14, l14, K14, m14, e14, rfl, h14, n14, d14⟩ (IsD.mono (L := 200) (H := 521) (L' := 200) (H' := 522) ⟨b24, p24, l24, K24, m24, e24, rfl, h24, n24, d24⟩ (by decide) (by decide)) (by decide) 0 HC.out.2)).mono ?_
    clear S
    rintro e w13 ⟨rfl, S, H⟩
    refine iv8 H n1 n2 n3 n4 n11 n12 n13 n14 ?_; clear n1 n2 n3 n4 n11 n12 n13 n14; intro n1 n2 n3 n4 n11 n12 n13 n14; refine iv6 H n15 n16 n21 n22 n23 n24 ?_; clear n15 n16 n21 n22 n23 n24; intro n15 n16 n21 n22 n23 n24
    clear H; obtain ⟨c3_0, c3_1, c3_2, c3_3, c3_4, c3_5⟩ := S.c6 3 rfl; obtain ⟨c8_0, c8_1, c8_2⟩ := S.c3 8 rfl; clear HC; clear c3_0 c3_1 c3_2 c3_3 c3_4 c3_5 c8_0 c8_1 c8_2; obtain ⟨c0_0, c0_1, c0_2, c0_3, c0_4, c0_5⟩ := S.c6 0 rfl
    have H := S.hnew 27 [.bool b1, .slice p1 l1 K1, .int .i64 e1, .bool b2, .slice p2 l2 K2, .int .i64 e2]
    replace S := S.al 27 [.bool b1, .slice p1 l1 K1, .int .i64 e1, .bool b2, .slice p2 l2 K2, .int .i64 e2] (w13.heap.size)
    refine iv8 H n1 n2 n3 n4 n11 n12 n13 n14 ?_; clear n1 n2 n3 n4 n11 n12 n13 n14; intro n1 n2 n3 n4 n11 n12 n13 n14; refine iv6 H n15 n16 n21 n22 n23 n24 ?_; clear n15 n16 n21 n22 n23 n24; intro n15 n16 n21 n22 n23 n24
    clear H; go_wp2_with fail; clear c0_0 c0_1 c0_2 c0_3 c0_4 c0_5
    generalize (w13.alloc (.cells #[.bool b1, .slice p1 l1 K1, .int .i64 e1, .bool b2, .slice p2 l2 K2, .int .i64 e2] 27)) = w14 at S n1 n2 n3 n4 n11 n12 n13 n14 n15 n16 n21 n22 n23 n24 ⊢
    obtain ⟨gs, hgs⟩ : ∃ g, w3.heap.size = g := ⟨_, rfl⟩
    rw [hgs] at S ⊢
    clear hgs
    obtain ⟨gd, hgd⟩ : ∃ g, w4.heap.size = g := ⟨_, rfl⟩
    rw [hgd] at S ⊢
    clear hgd
    obtain ⟨gp, hgp⟩ : ∃ g, w5.heap.size = g := ⟨_, rfl⟩
    rw [hgp] at S ⊢
    clear hgp
    obtain ⟨gl, hgl⟩ : ∃ g, w6.heap.size = g := ⟨_, rfl⟩
    rw [hgl] at S ⊢
    clear hgl
    obtain ⟨gh, hgh⟩ : ∃ g, w7.heap.size = g := ⟨_, rfl⟩
    rw [hgh] at S ⊢
    clear hgh
    obtain ⟨gm, hgm⟩ : ∃ g, w8.heap.size = g := ⟨_, rfl⟩
    rw [hgm] at S ⊢
    clear hgm
    obtain ⟨gn, hgn⟩ : ∃ g, w9.heap.size = g := ⟨_, rfl⟩
    rw [hgn] at S ⊢
    clear hgn
    obtain ⟨ga, hga⟩ : ∃ g, w13.heap.size = g := ⟨_, rfl⟩
    rw [hga] at S ⊢
    clear hga
    have HB := Lib.hid (show ((lo ≤ x1 * x3 ∧ x1 * x3 ≤ hi) ∧ (lo ≤ x1 * x4 ∧ x1 * x4 ≤ hi)) ∧ ((lo ≤ x2 * x3 ∧ x2 * x3 ≤ hi) ∧ (lo ≤ x2 * x4 ∧ x2 * x4 ≤ hi)) by
      have a := loM_le x1 x2 x3 x4
      have b := hiM_ge x1 x2 x3 x4
      rw [HP.out.1] at a
      rw [HP.out.2] at b
      exact ⟨⟨⟨a.1, b.1⟩, a.2.1, b.2.1⟩, ⟨a.2.2.1, b.2.2.1⟩, a.2.2.2, b.2.2.2⟩)
    clear n11 n12 n13 n14 n21 n22 n23 n24
    go_loopw [126, 19, 20] (fun si sl sh wr => (si = .int .i64 0 ∧ ∃ bl bh : Bool, sl = .bool bl ∧ sh = .bool bh ∧ Hid (bl = true ↔ False) ∧ Hid (bh = true ↔ False) ∧ IsNat wr (.slice p1 l1 K1) m1.natAbs ∧ IsNat wr (.slice p2 l2 K2) m2.natAbs ∧ IsNat wr (.slice p3 l3 K3) m3.natAbs ∧ IsNat wr (.slice p4 l4 K4) m4.natAbs ∧ IsNat wr (.slice p15 l15 K15) m15.natAbs ∧ IsNat wr (.slice p16 l16 K16) m16.natAbs ∧ St w wr [(w.heap.size, 29, [.bool b1, .slice p1 l1 K1, .int .i64 e1, .bool b2, .slice p2 l2 K2, .int .i64 e2]), (w.heap.size + 1, 29, [.bool b3, .slice p3 l3 K3, .int .i64 e3, .bool b4, .slice p4 l4 K4, .int .i64 e4]), (gs, 29, [.bool b11, .slice p11 l11 K11, .int .i64 e11, .bool b12, .slice p12 l12 K12, .int .i64 e12]), (gd, 29, [.bool b13, .slice p13 l13 K13, .int .i64 e13, .bool b14, .slice p14 l14 K14, .int .i64 e14]), (gp, 29, [.bool b15, .slice p15 l15 K15, .int .i64 e15, .bool b16, .slice p16 l16 K16, .int .i64 e16]), (gl, 27, [.bool b21, .slice p21 l21 K21, .int .i64 e21]), (gh, 27, [.bool b22, .slice p22 l22 K22, .int .i64 e22]), (gm, 27, [.bool b23, .slice p23 l23 K23, .int .i64 e23]), (gn, 27, [.bool b24, .slice p24 l24 K24, .int .i64 e24]), (ga, 27, [.bool b1, .slice p1 l1 K1, .int .i64 e1, .bool b2, .slice p2 l2 K2, .int .i64 e2])]) ∨ (si = .int .i64 1 ∧ ∃ bl bh : Bool, sl = .bool bl ∧ sh = .bool bh ∧ Hid (bl = true ↔ ((False ∨ x1 * x3 = lo) ∨ x1 * x4 = lo)) ∧ Hid (bh = true ↔ ((False ∨ x1 * x3 = hi) ∨ x1 * x4 = hi)) ∧ IsNat wr (.slice p1 l1 K1) m1.natAbs ∧ IsNat wr (.slice p2 l2 K2) m2.natAbs ∧ IsNat wr (.slice p3 l3 K3) m3.natAbs ∧ IsNat wr (.slice p4 l4 K4) m4.natAbs ∧ IsNat wr (.slice p15 l15 K15) m15.natAbs ∧ IsNat wr (.slice p16 l16 K16) m16.natAbs ∧ St w wr [(w.heap.size, 29, [.bool b1, .slice p1 l1 K1, .int .i64 e1, .bool b2, .slice p2 l2 K2, .int .i64 e2]), (w.heap.size + 1, 29, [.bool b3, .slice p3 l3 K3, .int .i64 e3, .bool b4, .slice p4 l4 K4, .int .i64 e4]), (gs, 29, [.bool b11, .slice p11 l11 K11, .int .i64 e11, .bool b12, .slice p12 l12 K12, .int .i64 e12]), (gd, 29, [.bool b13, .slice p13 l13 K13, .int .i64 e13, .bool b14, .slice p14 l14 K14, .int .i64 e14]), (gp, 29, [.bool b15, .slice p15 l15 K15, .int .i64 e15, .bool b16, .slice p16 l16 K16, .int .i64 e16]), (gl, 27, [.bool b21, .slice p21 l21 K21, .int .i64 e21]), (gh, 27, [.bool b22, .slice p22 l22 K22, .int .i64 e22]), (gm, 27, [.bool b23, .slice p23 l23 K23, .int .i64 e23]), (gn, 27, [.bool b24, .slice p24 l24 K24, .int .i64 e24]), (ga, 27, [.bool b1, .slice p1 l1 K1, .int .i64 e1, .bool b2, .slice p2 l2 K2, .int .i64 e2])]) ∨ (si = .int .i64 2 ∧ ∃ bl bh : Bool, sl = .bool bl ∧ sh = .bool bh ∧ Hid (bl = true ↔ ((((False ∨ x1 * x3 = lo) ∨ x1 * x4 = lo) ∨ x2 * x3 = lo) ∨ x2 * x4 = lo)) ∧ Hid (bh = true ↔ ((((False ∨ x1 * x3 = hi) ∨ x1 * x4 = hi) ∨ x2 * x3 = hi) ∨ x2 * x4 = hi)) ∧ IsNat wr (.slice p1 l1 K1) m1.natAbs ∧ IsNat wr (.slice p2 l2 K2) m2.natAbs ∧ IsNat wr (.slice p3 l3 K3) m3.natAbs ∧ IsNat wr (.slice p4 l4 K4) m4.natAbs ∧ IsNat wr (.slice p15 l15 K15) m15.natAbs ∧ IsNat wr (.slice p16 l16 K16) m16.natAbs ∧ St w wr [(w.heap.size, 29, [.bool b1, .slice p1 l1 K1, .int .i64 e1, .bool b2, .slice p2 l2 K2, .int .i64 e2]), (w.heap.size + 1, 29, [.bool b3, .slice p3 l3 K3, .int .i64 e3, .bool b4, .slice p4 l4 K4, .int .i64 e4]), (gs, 29, [.bool b11, .slice p11 l11 K11, .int .i64 e11, .bool b12, .slice p12 l12 K12, .int .i64 e12]), (gd, 29, [.bool b13, .slice p13 l13 K13, .int .i64 e13, .bool b14, .slice p14 l14 K14, .int .i64 e14]), (gp, 29, [.bool b15, .slice p15 l15 K15, .int .i64 e15, .bool b16, .slice p16 l16 K16, .int .i64 e16]), (gl, 27, [.bool b21, .slice p21 l21 K21, .int .i64 e21]), (gh, 27, [.bool b22, .slice p22 l22 K22, .int .i64 e22]), (gm, 27, [.bool b23, .slice p23 l23 K23, .int .i64 e23]), (gn, 27, [.bool b24, .slice p24 l24 K24, .int .i64 e24]), (ga, 27, [.bool b1, .slice p1 l1 K1, .int .i64 e1, .bool b2, .slice p2 l2 K2, .int .i64 e2])])) (fun si _ _ _ => 2 - (intOf si).toNat)
    case atStart => exact .inl ⟨rfl, false, false, rfl, rfl, ⟨fun h => (by cases h), fun h => h.elim⟩, ⟨fun h => (by cases h), fun h => h.elim⟩, n1, n2, n3, n4, n15, n16, S⟩
    case round =>
      clear n1 n2 n3 n4 n15 n16 S
      rcases hrel with ⟨rfl, bl, bh, rfl, rfl, hl, hh, n1, n2, n3, n4, n15, n16, S⟩ | ⟨rfl, bl, bh, rfl, rfl, hl, hh, n1, n2, n3, n4, n15, n16, S⟩ | ⟨rfl, bl, bh, rfl, rfl, hl, hh, n1, n2, n3, n4, n15, n16, S⟩
      ·
        obtain ⟨c9_0, c9_1, c9_2, c9_3, c9_4, c9_5⟩ := S.c6 9 rfl
        have H := S.hnew 27 [.bool b1, .slice p1 l1 K1, .int .i64 e1]
        replace S := S.al 27 [.bool b1, .slice p1 l1 K1, .int .i64 e1] (wr.heap.size)
        refine iv6 H n1 n2 n3 n4 n15 n16 ?_; clear n1 n2 n3 n4 n15 n16; intro n1 n2 n3 n4 n15 n16
        clear H
        go_upto_region 20 with fail
        clear c9_0 c9_1 c9_2 c9_3 c9_4 c9_5
        generalize (wr.alloc (.cells #[.bool b1, .slice p1 l1 K1, .int .i64 e1] 27)) = w61 at S n1 n2 n3 n4 n15 n16 ⊢
        obtain ⟨gx, hgx⟩ : ∃ g, wr.heap.size = g := ⟨_, rfl⟩
        rw [hgx] at S ⊢
        clear hgx; obtain ⟨c1_0, c1_1, c1_2, c1_3, c1_4, c1_5⟩ := S.c6 1 rfl
        have H := S.hnew 27 [.bool b3, .slice p3 l3 K3, .int .i64 e3, .bool b4, .slice p4 l4 K4, .int .i64 e4]
        replace S := S.al 27 [.bool b3, .slice p3 l3 K3, .int .i64 e3, .bool b4, .slice p4 l4 K4, .int .i64 e4] (w61.heap.size)
        refine iv6 H n1 n2 n3 n4 n15 n16 ?_; clear n1 n2 n3 n4 n15 n16; intro n1 n2 n3 n4 n15 n16
        clear H; go_wp2_with fail; clear c1_0 c1_1 c1_2 c1_3 c1_4 c1_5
        generalize (w61.alloc (.cells #[.bool b3, .slice p3 l3 K3, .int .i64 e3, .bool b4, .slice p4 l4 K4, .int .i64 e4] 27)) = w62 at S n1 n2 n3 n4 n15 n16 ⊢
        obtain ⟨gb, hgb⟩ : ∃ g, w61.heap.size = g := ⟨_, rfl⟩
        rw [hgb] at S ⊢
        clear hgb
        go_loopw [136, 19, 20] (fun si sl sh wr => (si = .int .i64 0 ∧ ∃ bl bh : Bool, sl = .bool bl ∧ sh = .bool bh ∧ Hid (bl = true ↔ False) ∧ Hid (bh = true ↔ False) ∧ IsNat wr (.slice p1 l1 K1) m1.natAbs ∧ IsNat wr (.slice p2 l2 K2) m2.natAbs ∧ IsNat wr (.slice p3 l3 K3) m3.natAbs ∧ IsNat wr (.slice p4 l4 K4) m4.natAbs ∧ IsNat wr (.slice p15 l15 K15) m15.natAbs ∧ IsNat wr (.slice p16 l16 K16) m16.natAbs ∧ St w wr [(w.heap.size, 29, [.bool b1, .slice p1 l1 K1, .int .i64 e1, .bool b2, .slice p2 l2 K2, .int .i64 e2]), (w.heap.size + 1, 29, [.bool b3, .slice p3 l3 K3, .int .i64 e3, .bool b4, .slice p4 l4 K4, .int .i64 e4]), (gs, 29, [.bool b11, .slice p11 l11 K11, .int .i64 e11, .bool b12, .slice p12 l12 K12, .int .i64 e12]), (gd, 29, [.bool b13, .slice p13 l13 K13, .int .i64 e13, .bool b14, .slice p14 l14 K14, .int .i64 e14]), (gp, 29, [.bool b15, .slice p15 l15 K15, .int .i64 e15, .bool b16, .slice p16 l16 K16, .int .i64 e16]), (gl, 27, [.bool b21, .slice p21 l21 K21, .int .i64 e21]), (gh, 27, [.bool b22, .slice p22 l22 K22, .int .i64 e22]), (gm, 27, [.bool b23, .slice p23 l23 K23, .int .i64 e23]), (gn, 27, [.bool b24, .slice p24 l24 K24, .int .i64 e24]), (ga, 27, [.bool b1, .slice p1 l1 K1, .int .i64 e1, .bool b2, .slice p2 l2 K2, .int .i64 e2]), (gx, 27, [.bool b1, .slice p1 l1 K1, .int .i64 e1]), (gb, 27, [.bool b3, .slice p3 l3 K3, .int .i64 e3, .bool b4, .slice p4 l4 K4, .int .i64 e4])]) ∨ (si = .int .i64 1 ∧ ∃ bl bh : Bool, sl = .bool bl ∧ sh = .bool bh ∧ Hid (bl = true ↔ (False ∨ x1 * x3 = lo)) ∧ Hid (bh = true ↔ (False ∨ x1 * x3 = hi)) ∧ IsNat wr (.slice p1 l1 K1) m1.natAbs ∧ IsNat wr (.slice p2 l2 K2) m2.natAbs ∧ IsNat wr (.slice p3 l3 K3) m3.natAbs ∧ IsNat wr (.slice p4 l4 K4) m4.natAbs ∧ IsNat wr (.slice p15 l15 K15) m15.natAbs ∧ IsNat wr (.slice p16 l16 K16) m16.natAbs ∧ St w wr [(w.heap.size, 29, [.bool b1, .slice p1 l1 K1, .int .i64 e1, .bool b2, .slice p2 l2 K2, .int .i64 e2]), (w.heap.size + 1, 29, [.bool b3, .slice p3 l3 K3, .int .i64 e3, .bool b4, .slice p4 l4 K4, .int .i64 e4]), (gs, 29, [.bool b11, .slice p11 l11 K11, .int .i64 e11, .bool b12, .slice p12 l12 K12, .int .i64 e12]), (gd, 29, [.bool b13, .slice p13 l13 K13, .int .i64 e13, .bool b14, .slice p14 l14 K14, .int .i64 e14]), (gp, 29, [.bool b15, .slice p15 l15 K15, .int .i64 e15, .bool b16, .slice p16 l16 K16, .int .i64 e16]), (gl, 27, [.bool b21, .slice p21 l21 K21, .int .i64 e21]), (gh, 27, [.bool b22, .slice p22 l22 K22, .int .i64 e22]), (gm, 27, [.bool b23, .slice p23 l23 K23, .int .i64 e23]), (gn, 27, [.bool b24, .slice p24 l24 K24, .int .i64 e24]), (ga, 27, [.bool b1, .slice p1 l1 K1, .int .i64 e1, .bool b2, .slice p2 l2 K2, .int .i64 e2]), (gx, 27, [.bool b1, .slice p1 l1 K1, .int .i64 e1]), (gb, 27, [.bool b3, .slice p3 l3 K3, .int .i64 e3, .bool b4, .slice p4 l4 K4, .int .i64 e4])]) ∨ (si = .int .i64 2 ∧ ∃ bl bh : Bool, sl = .bool bl ∧ sh = .bool bh ∧ Hid (bl = true ↔ ((False ∨ x1 * x3 = lo) ∨ x1 * x4 = lo)) ∧ Hid (bh = true ↔ ((False ∨ x1 * x3 = hi) ∨ x1 * x4 = hi)) ∧ IsNat wr (.slice p1 l1 K1) m1.natAbs ∧ IsNat wr (.slice p2 l2 K2) m2.natAbs ∧ IsNat wr (.slice p3 l3 K3) m3.natAbs ∧ IsNat wr (.slice p4 l4 K4) m4.natAbs ∧ IsNat wr (.slice p15 l15 K15) m15.natAbs ∧ IsNat wr (.slice p16 l16 K16) m16.natAbs ∧ St w wr [(w.heap.size, 29, [.bool b1, .slice p1 l1 K1, .int .i64 e1, .bool b2, .slice p2 l2 K2, .int .i64 e2]), (w.heap.size + 1, 29, [.bool b3, .slice p3 l3 K3, .int .i64 e3, .bool b4, .slice p4 l4 K4, .int .i64 e4]), (gs, 29, [.bool b11, .slice p11 l11 K11, .int .i64 e11, .bool b12, .slice p12 l12 K12, .int .i64 e12]), (gd, 29, [.bool b13, .slice p13 l13 K13, .int .i64 e13, .bool b14, .slice p14 l14 K14, .int .i64 e14]), (gp, 29, [.bool b15, .slice p15 l15 K15, .int .i64 e15, .bool b16, .slice p16 l16 K16, .int .i64 e16]), (gl, 27, [.bool b21, .slice p21 l21 K21, .int .i64 e21]), (gh, 27, [.bool b22, .slice p22 l22 K22, .int .i64 e22]), (gm, 27, [.bool b23, .slice p23 l23 K23, .int .i64 e23]), (gn, 27, [.bool b24, .slice p24 l24 K24, .int .i64 e24]), (ga, 27, [.bool b1, .slice p1 l1 K1, .int .i64 e1, .bool b2, .slice p2 l2 K2, .int .i64 e2]), (gx, 27, [.bool b1, .slice p1 l1 K1, .int .i64 e1]), (gb, 27, [.bool b3, .slice p3 l3 K3, .int .i64 e3, .bool b4, .slice p4 l4 K4, .int .i64 e4])])) (fun si _ _ _ => 2 - (intOf si).toNat)
        case atStart => exact .inl ⟨rfl, bl, bh, rfl, rfl, hl, hh, n1, n2, n3, n4, n15, n16, S⟩
        case round =>
          clear n1 n2 n3 n4 n15 n16 S hl hh
          rcases hrel with ⟨rfl, bl, bh, rfl, rfl, hl, hh, n1, n2, n3, n4, n15, n16, S⟩ | ⟨rfl, bl, bh, rfl, rfl, hl, hh, n1, n2, n3, n4, n15, n16, S⟩ | ⟨rfl, bl, bh, rfl, rfl, hl, hh, n1, n2, n3, n4, n15, n16, S⟩
          ·
            obtain ⟨c11_0, c11_1, c11_2, c11_3, c11_4, c11_5⟩ := S.c6 11 rfl
            have H := S.hnew 27 [.bool b3, .slice p3 l3 K3, .int .i64 e3]
            replace S := S.al 27 [.bool b3, .slice p3 l3 K3, .int .i64 e3] (wr.heap.size)
            refine iv6 H n1 n2 n3 n4 n15 n16 ?_; clear n1 n2 n3 n4 n15 n16; intro n1 n2 n3 n4 n15 n16
            clear H
            go_upto_region 23 with fail
            clear c11_0 c11_1 c11_2 c11_3 c11_4 c11_5
            generalize (wr.alloc (.cells #[.bool b3, .slice p3 l3 K3, .int .i64 e3] 27)) = w81 at S n1 n2 n3 n4 n15 n16 ⊢
            obtain ⟨c10_0, c10_1, c10_2⟩ := S.c3 10 rfl; obtain ⟨c12_0, c12_1, c12_2⟩ := S.c3 12 rfl; go_wp2_with fail; clear c10_0 c10_1 c10_2 c12_0 c12_1 c12_2
            refine (S.call (dmul_any (L := 200) (H := 520) (M := 200) (I := 520) (HT.out.below S.below) ⟨b1, p1, l1, K1, m1, e1, rfl, h1, n1, d1⟩ ⟨b3, p3, l3, K3, m3, e3, rfl, h3, n3, d3⟩ (by decide) (x1 * x3) rfl)).mono ?_
            clear S
            rintro e w82 ⟨⟨_, rfl, b31, p31, l31, K31, m31, e31, rfl, h31, n31, d31⟩, S, H⟩
            refine iv6 H n1 n2 n3 n4 n15 n16 ?_; clear n1 n2 n3 n4 n15 n16; intro n1 n2 n3 n4 n15 n16
            clear H; obtain ⟨c10_0, c10_1, c10_2⟩ := S.c3 10 rfl; obtain ⟨c12_0, c12_1, c12_2⟩ := S.c3 12 rfl
            have H := S.hnew 27 [.bool b31, .slice p31 l31 K31, .int .i64 e31]
            replace S := S.al 27 [.bool b31, .slice p31 l31 K31, .int .i64 e31] (w82.heap.size)
            refine iv7 H n1 n2 n3 n4 n15 n16 n31 ?_; clear n1 n2 n3 n4 n15 n16 n31; intro n1 n2 n3 n4 n15 n16 n31
            clear H; clear c10_0 c10_1 c10_2 c12_0 c12_1 c12_2; obtain ⟨c4_0, c4_1, c4_2, c4_3, c4_4, c4_5⟩ := S.c6 4 rfl; obtain ⟨c13_0, c13_1, c13_2⟩ := S.c3 13 rfl; go_wp2_with fail
            generalize (.tuple #[.agg #[.bool b31, .slice p31 l31 K31, .int .i64 e31], .int .i64 0] : Value) = g1
            clear c4_0 c4_1 c4_2 c4_3 c4_4 c4_5 c13_0 c13_1 c13_2
            refine (S.call (shas_any (L := 400) (H := 1041) ⟨b15, p15, l15, K15, m15, e15, b16, p16, l16, K16, m16, e16, rfl, h15, n15, d15, h16, n16, d16⟩ (IsD.mono (L := 400) (H := 1040) (L' := 400) (H' := 1041) ⟨b31, p31, l31, K31, m31, e31, rfl, h31, n31, d31⟩ (by decide) (by decide)) (by decide) true (decide_eq_true ⟨Rat.not_lt.2 HB.out.1.1.1, Rat.not_lt.2 HB.out.1.1.2⟩))).mono ?_
            clear S
            rintro e w83 ⟨rfl, S, H⟩
            refine iv7 H n1 n2 n3 n4 n15 n16 n31 ?_; clear n1 n2 n3 n4 n15 n16 n31; intro n1 n2 n3 n4 n15 n16 n31
            clear H; obtain ⟨c4_0, c4_1, c4_2, c4_3, c4_4, c4_5⟩ := S.c6 4 rfl; obtain ⟨c13_0, c13_1, c13_2⟩ := S.c3 13 rfl
            by_cases zbl : bl = true
            ·
              have Phl := Lib.hid (hl.out.1 zbl)
              clear hl
              subst zbl
              by_cases zbh : bh = true
              ·
                have Phh := Lib.hid (hh.out.1 zbh)
                clear hh
                subst zbh
                go_wp2_with fail; clear c4_0 c4_1 c4_2 c4_3 c4_4 c4_5 c13_0 c13_1 c13_2
                replace S := S.take 12 (L := [(w.heap.size, 29, [.bool b1, .slice p1 l1 K1, .int .i64 e1, .bool b2, .slice p2 l2 K2, .int .i64 e2]), (w.heap.size + 1, 29, [.bool b3, .slice p3 l3 K3, .int .i64 e3, .bool b4, .slice p4 l4 K4, .int .i64 e4]), (gs, 29, [.bool b11, .slice p11 l11 K11, .int .i64 e11, .bool b12, .slice p12 l12 K12, .int .i64 e12]), (gd, 29, [.bool b13, .slice p13 l13 K13, .int .i64 e13, .bool b14, .slice p14 l14 K14, .int .i64 e14]), (gp, 29, [.bool b15, .slice p15 l15 K15, .int .i64 e15, .bool b16, .slice p16 l16 K16, .int .i64 e16]), (gl, 27, [.bool b21, .slice p21 l21 K21, .int .i64 e21]), (gh, 27, [.bool b22, .slice p22 l22 K22, .int .i64 e22]), (gm, 27, [.bool b23, .slice p23 l23 K23, .int .i64 e23]), (gn, 27, [.bool b24, .slice p24 l24 K24, .int .i64 e24]), (ga, 27, [.bool b1, .slice p1 l1 K1, .int .i64 e1, .bool b2, .slice p2 l2 K2, .int .i64 e2]), (gx, 27, [.bool b1, .slice p1 l1 K1, .int .i64 e1]), (gb, 27, [.bool b3, .slice p3 l3 K3, .int .i64 e3, .bool b4, .slice p4 l4 K4, .int .i64 e4])]) rfl
                go_roundw
                case rel => exact .inr (.inl ⟨rfl, true, true, rfl, rfl, ⟨fun _ => .inl Phl.out, fun _ => rfl⟩, ⟨fun _ => .inl Phh.out, fun _ => rfl⟩, n1, n2, n3, n4, n15, n16, S⟩)
                case measure => simp [intOf]
              ·
                have Phh := Lib.hid (fun h => zbh (hh.out.2 h))
                obtain rfl : bh = false := by simpa using zbh
                clear hh zbh
                by_cases hq2 : x1 * x3 = hi
                ·
                  clear c4_0 c4_1 c4_2 c4_3 c4_4 c4_5 c13_0 c13_1 c13_2; obtain ⟨c4_0, c4_1, c4_2, c4_3, c4_4, c4_5⟩ := S.c6 4 rfl; obtain ⟨c13_0, c13_1, c13_2⟩ := S.c3 13 rfl; go_wp2_with fail; clear c4_0 c4_1 c4_2 c4_3 c4_4 c4_5 c13_0 c13_1 c13_2
                  refine (S.call (dcompare_any (L := 400) (H := 1041) (IsD.mono (L := 400) (H := 1040) (L' := 400) (H' := 1041) ⟨b31, p31, l31, K31, m31, e31, rfl, h31, n31, d31⟩ (by decide) (by decide)) ⟨b16, p16, l16, K16, m16, e16, rfl, h16, n16, d16⟩ (by decide) 0 (by rw [hq2]; exact cmpR_eq _))).mono ?_
                  clear S
                  rintro e w84 ⟨rfl, S, H⟩
                  refine iv7 H n1 n2 n3 n4 n15 n16 n31 ?_; clear n1 n2 n3 n4 n15 n16 n31; intro n1 n2 n3 n4 n15 n16 n31
                  clear H; obtain ⟨c4_0, c4_1, c4_2, c4_3, c4_4, c4_5⟩ := S.c6 4 rfl; obtain ⟨c13_0, c13_1, c13_2⟩ := S.c3 13 rfl; go_wp2_with fail; clear c4_0 c4_1 c4_2 c4_3 c4_4 c4_5 c13_0 c13_1 c13_2
                  replace S := S.take 12 (L := [(w.heap.size, 29, [.bool b1, .slice p1 l1 K1, .int .i64 e1, .bool b2, .slice p2 l2 K2, .int .i64 e2]), (w.heap.size + 1, 29, [.bool b3, .slice p3 l3 K3, .int .i64 e3, .bool b4, .slice p4 l4 K4, .int .i64 e4]), (gs, 29, [.bool b11, .slice p11 l11 K11, .int .i64 e11, .bool b12, .slice p12 l12 K12, .int .i64 e12]), (gd, 29, [.bool b13, .slice p13 l13 K13, .int .i64 e13, .bool b14, .slice p14 l14 K14, .int .i64 e14]), (gp, 29, [.bool b15, .slice p15 l15 K15, .int .i64 e15, .bool b16, .slice p16 l16 K16, .int .i64 e16]), (gl, 27, [.bool b21, .slice p21 l21 K21, .int .i64 e21]), (gh, 27, [.bool b22, .slice p22 l22 K22, .int .i64 e22]), (gm, 27, [.bool b23, .slice p23 l23 K23, .int .i64 e23]), (gn, 27, [.bool b24, .slice p24 l24 K24, .int .i64 e24]), (ga, 27, [.bool b1, .slice p1 l1 K1, .int .i64 e1, .bool b2, .slice p2 l2 K2, .int .i64 e2]), (gx, 27, [.bool b1, .slice p1 l1 K1, .int .i64 e1]), (gb, 27, [.bool b3, .slice p3 l3 K3, .int .i64 e3, .bool b4, .slice p4 l4 K4, .int .i64 e4])]) rfl
                  go_roundw
                  case rel => exact .inr (.inl ⟨rfl, true, true, rfl, rfl, ⟨fun _ => .inl Phl.out, fun _ => rfl⟩, ⟨fun _ => .inr hq2, fun _ => rfl⟩, n1, n2, n3, n4, n15, n16, S⟩)
                  case measure => simp [intOf]
                ·
                  obtain ⟨chq2, hchq2⟩ : ∃ c, cmpR (x1 * x3) hi = c := ⟨_, rfl⟩
                  have zhq2 : (chq2 == 0) = false := by rw [← hchq2]; exact cmpR_ne hq2
                  have HChq2 := Lib.hid hchq2
                  clear hchq2; clear c4_0 c4_1 c4_2 c4_3 c4_4 c4_5 c13_0 c13_1 c13_2; obtain ⟨c4_0, c4_1, c4_2, c4_3, c4_4, c4_5⟩ := S.c6 4 rfl; obtain ⟨c13_0, c13_1, c13_2⟩ := S.c3 13 rfl; go_wp2_with fail; clear c4_0 c4_1 c4_2 c4_3 c4_4 c4_5 c13_0 c13_1 c13_2
                  refine (S.call (dcompare_any (L := 400) (H := 1041) (IsD.mono (L := 400) (H := 1040) (L' := 400) (H' := 1041) ⟨b31, p31, l31, K31, m31, e31, rfl, h31, n31, d31⟩ (by decide) (by decide)) ⟨b16, p16, l16, K16, m16, e16, rfl, h16, n16, d16⟩ (by decide) chq2 HChq2.out)).mono ?_
                  clear S
                  rintro e w84 ⟨rfl, S, H⟩
                  refine iv7 H n1 n2 n3 n4 n15 n16 n31 ?_; clear n1 n2 n3 n4 n15 n16 n31; intro n1 n2 n3 n4 n15 n16 n31
                  clear H; obtain ⟨c4_0, c4_1, c4_2, c4_3, c4_4, c4_5⟩ := S.c6 4 rfl; obtain ⟨c13_0, c13_1, c13_2⟩ := S.c3 13 rfl; go_wp2_with fail; clear c4_0 c4_1 c4_2 c4_3 c4_4 c4_5 c13_0 c13_1 c13_2
                  replace S := S.take 12 (L := [(w.heap.size, 29, [.bool b1, .slice p1 l1 K1, .int .i64 e1, .bool b2, .slice p2 l2 K2, .int .i64 e2]), (w.heap.size + 1, 29, [.bool b3, .slice p3 l3 K3, .int .i64 e3, .bool b4, .slice p4 l4 K4, .int .i64 e4]), (gs, 29, [.bool b11, .slice p11 l11 K11, .int .i64 e11, .bool b12, .slice p12 l12 K12, .int .i64 e12]), (gd, 29, [.bool b13, .slice p13 l13 K13, .int .i64 e13, .bool b14, .slice p14 l14 K14, .int .i64 e14]), (gp, 29, [.bool b15, .slice p15 l15 K15, .int .i64 e15, .bool b16, .slice p16 l16 K16, .int .i64 e16]), (gl, 27, [.bool b21, .slice p21 l21 K21, .int .i64 e21]), (gh, 27, [.bool b22, .slice p22 l22 K22, .int .i64 e22]), (gm, 27, [.bool b23, .slice p23 l23 K23, .int .i64 e23]), (gn, 27, [.bool b24, .slice p24 l24 K24, .int .i64 e24]), (ga, 27, [.bool b1, .slice p1 l1 K1, .int .i64 e1, .bool b2, .slice p2 l2 K2, .int .i64 e2]), (gx, 27, [.bool b1, .slice p1 l1 K1, .int .i64 e1]), (gb, 27, [.bool b3, .slice p3 l3 K3, .int .i64 e3, .bool b4, .slice p4 l4 K4, .int .i64 e4])]) rfl
                  go_roundw
                  case rel => exact .inr (.inl ⟨rfl, true, false, rfl, rfl, ⟨fun _ => .inl Phl.out, fun _ => rfl⟩, ⟨fun h => (by cases h), fun h => h.elim (fun h => absurd h Phh.out) (fun h => absurd h hq2)⟩, n1, n2, n3, n4, n15, n16, S⟩)
                  case measure => simp [intOf]
            ·
              have Phl := Lib.hid (fun h => zbl (hl.out.2 h))
              obtain rfl : bl = false := by simpa using zbl
              clear hl zbl
              by_cases hq1 : x1 * x3 = lo
              ·
                clear c4_0 c4_1 c4_2 c4_3 c4_4 c4_5 c13_0 c13_1 c13_2; obtain ⟨c4_0, c4_1, c4_2, c4_3, c4_4, c4_5⟩ := S.c6 4 rfl; obtain ⟨c13_0, c13_1, c13_2⟩ := S.c3 13 rfl; go_wp2_with fail; clear c4_0 c4_1 c4_2 c4_3 c4_4 c4_5 c13_0 c13_1 c13_2
                refine (S.call (dcompare_any (L := 400) (H := 1041) (IsD.mono (L := 400) (H := 1040) (L' := 400) (H' := 1041) ⟨b31, p31, l31, K31, m31, e31, rfl, h31, n31, d31⟩ (by decide) (by decide)) ⟨b15, p15, l15, K15, m15, e15, rfl, h15, n15, d15⟩ (by decide) 0 (by rw [hq1]; exact cmpR_eq _))).mono ?_
                clear S
                rintro e w84 ⟨rfl, S, H⟩
                refine iv7 H n1 n2 n3 n4 n15 n16 n31 ?_; clear n1 n2 n3 n4 n15 n16 n31; intro n1 n2 n3 n4 n15 n16 n31
                clear H; obtain ⟨c4_0, c4_1, c4_2, c4_3, c4_4, c4_5⟩ := S.c6 4 rfl; obtain ⟨c13_0, c13_1, c13_2⟩ := S.c3 13 rfl
                by_cases zbh : bh = true
                ·
                  have Phh := Lib.hid (hh.out.1 zbh)
                  clear hh
                  subst zbh
                  go_wp2_with fail; clear c4_0 c4_1 c4_2 c4_3 c4_4 c4_5 c13_0 c13_1 c13_2
                  replace S := S.take 12 (L := [(w.heap.size, 29, [.bool b1, .slice p1 l1 K1, .int .i64 e1, .bool b2, .slice p2 l2 K2, .int .i64 e2]), (w.heap.size + 1, 29, [.bool b3, .slice p3 l3 K3, .int .i64 e3, .bool b4, .slice p4 l4 K4, .int .i64 e4]), (gs, 29, [.bool b11, .slice p11 l11 K11, .int .i64 e11, .bool b12, .slice p12 l12 K12, .int .i64 e12]), (gd, 29, [.bool b13, .slice p13 l13 K13, .int .i64 e13, .bool b14, .slice p14 l14 K14, .int .i64 e14]), (gp, 29, [.bool b15, .slice p15 l15 K15, .int .i64 e15, .bool b16, .slice p16 l16 K16, .int .i64 e16]), (gl, 27, [.bool b21, .slice p21 l21 K21, .int .i64 e21]), (gh, 27, [.bool b22, .slice p22 l22 K22, .int .i64 e22]), (gm, 27, [.bool b23, .slice p23 l23 K23, .int .i64 e23]), (gn, 27, [.bool b24, .slice p24 l24 K24, .int .i64 e24]), (ga, 27, [.bool b1, .slice p1 l1 K1, .int .i64 e1, .bool b2, .slice p2 l2 K2, .int .i64 e2]), (gx, 27, [.bool b1, .slice p1 l1 K1, .int .i64 e1]), (gb, 27, [.bool b3, .slice p3 l3 K3, .int .i64 e3, .bool b4, .slice p4 l4 K4, .int .i64 e4])]) rfl
                  go_roundw
                  case rel => exact .inr (.inl ⟨rfl, true, true, rfl, rfl, ⟨fun _ => .inr hq1, fun _ => rfl⟩, ⟨fun _ => .inl Phh.out, fun _ => rfl⟩, n1, n2, n3, n4, n15, n16, S⟩)
                  case measure => simp [intOf]
                ·
                  have Phh := Lib.hid (fun h => zbh (hh.out.2 h))
                  obtain rfl : bh = false := by simpa using zbh
                  clear hh zbh
                  by_cases hq2 : x1 * x3 = hi
                  ·
                    clear c4_0 c4_1 c4_2 c4_3 c4_4 c4_5 c13_0 c13_1 c13_2; obtain ⟨c4_0, c4_1, c4_2, c4_3, c4_4, c4_5⟩ := S.c6 4 rfl; obtain ⟨c13_0, c13_1, c13_2⟩ := S.c3 13 rfl; go_wp2_with fail; clear c4_0 c4_1 c4_2 c4_3 c4_4 c4_5 c13_0 c13_1 c13_2
                    refine (S.call (dcompare_any (L := 400) (H := 1041) (IsD.mono (L := 400) (H := 1040) (L' := 400) (H' := 1041) ⟨b31, p31, l31, K31, m31, e31, rfl, h31, n31, d31⟩ (by decide) (by decide)) ⟨b16, p16, l16, K16, m16, e16, rfl, h16, n16, d16⟩ (by decide) 0 (by rw [hq2]; exact cmpR_eq _))).mono ?_
                    clear S
                    rintro e w85 ⟨rfl, S, H⟩
                    refine iv7 H n1 n2 n3 n4 n15 n16 n31 ?_; clear n1 n2 n3 n4 n15 n16 n31; intro n1 n2 n3 n4 n15 n16 n31
                    clear H; obtain ⟨c4_0, c4_1, c4_2, c4_3, c4_4, c4_5⟩ := S.c6 4 rfl; obtain ⟨c13_0, c13_1, c13_2⟩ := S.c3 13 rfl; go_wp2_with fail; clear c4_0 c4_1 c4_2 c4_3 c4_4 c4_5 c13_0 c13_1 c13_2
                    replace S := S.take 12 (L := [(w.heap.size, 29, [.bool b1, .slice p1 l1 K1, .int .i64 e1, .bool b2, .slice p2 l2 K2, .int .i64 e2]), (w.heap.size + 1, 29, [.bool b3, .slice p3 l3 K3, .int .i64 e3, .bool b4, .slice p4 l4 K4, .int .i64 e4]), (gs, 29, [.bool b11, .slice p11 l11 K11, .int .i64 e11, .bool b12, .slice p12 l12 K12, .int .i64 e12]), (gd, 29, [.bool b13, .slice p13 l13 K13, .int .i64 e13, .bool b14, .slice p14 l14 K14, .int .i64 e14]), (gp, 29, [.bool b15, .slice p15 l15 K15, .int .i64 e15, .bool b16, .slice p16 l16 K16, .int .i64 e16]), (gl, 27, [.bool b21, .slice p21 l21 K21, .int .i64 e21]), (gh, 27, [.bool b22, .slice p22 l22 K22, .int .i64 e22]), (gm, 27, [.bool b23, .slice p23 l23 K23, .int .i64 e23]), (gn, 27, [.bool b24, .slice p24 l24 K24, .int .i64 e24]), (ga, 27, [.bool b1, .slice p1 l1 K1, .int .i64 e1, .bool b2, .slice p2 l2 K2, .int .i64 e2]), (gx, 27, [.bool b1, .slice p1 l1 K1, .int .i64 e1]), (gb, 27, [.bool b3, .slice p3 l3 K3, .int .i64 e3, .bool b4, .slice p4 l4 K4, .int .i64 e4])]) rfl
                    go_roundw
                    case rel => exact .inr (.inl ⟨rfl, true, true, rfl, rfl, ⟨fun _ => .inr hq1, fun _ => rfl⟩, ⟨fun _ => .inr hq2, fun _ => rfl⟩, n1, n2, n3, n4, n15, n16, S⟩)
                    case measure => simp [intOf]
                  ·
                    obtain ⟨chq2, hchq2⟩ : ∃ c, cmpR (x1 * x3) hi = c := ⟨_, rfl⟩
                    have zhq2 : (chq2 == 0) = false := by rw [← hchq2]; exact cmpR_ne hq2
                    have HChq2 := Lib.hid hchq2
                    clear hchq2; clear c4_0 c4_1 c4_2 c4_3 c4_4 c4_5 c13_0 c13_1 c13_2; obtain ⟨c4_0, c4_1, c4_2, c4_3, c4_4, c4_5⟩ := S.c6 4 rfl; obtain ⟨c13_0, c13_1, c13_2⟩ := S.c3 13 rfl; go_wp2_with fail; clear c4_0 c4_1 c4_2 c4_3 c4_4 c4_5 c13_0 c13_1 c13_2
                    refine (S.call (dcompare_any (L := 400) (H := 1041) (IsD.mono (L := 400) (H := 1040) (L' := 400) (H' := 1041) ⟨b31, p31, l31, K31, m31, e31, rfl, h31, n31, d31⟩ (by decide) (by decide)) ⟨b16, p16, l16, K16, m16, e16, rfl, h16, n16, d16⟩ (by decide) chq2 HChq2.out)).mono ?_
                    clear S
                    rintro e w85 ⟨rfl, S, H⟩
                    refine iv7 H n1 n2 n3 n4 n15 n16 n31 ?_; clear n1 n2 n3 n4 n15 n16 n31; intro n1 n2 n3 n4 n15 n16 n31
                    clear H; obtain ⟨c4_0, c4_1, c4_2, c4_3, c4_4, c4_5⟩ := S.c6 4 rfl; obtain ⟨c13_0, c13_1, c13_2⟩ := S.c3 13 rfl; go_wp2_with fail; clear c4_0 c4_1 c4_2 c4_3 c4_4 c4_5 c13_0 c13_1 c13_2
                    replace S := S.take 12 (L := [(w.heap.size, 29, [.bool b1, .slice p1 l1 K1, .int .i64 e1, .bool b2, .slice p2 l2 K2, .int .i64 e2]), (w.heap.size + 1, 29, [.bool b3, .slice p3 l3 K3, .int .i64 e3, .bool b4, .slice p4 l4 K4, .int .i64 e4]), (gs, 29, [.bool b11, .slice p11 l11 K11, .int .i64 e11, .bool b12, .slice p12 l12 K12, .int .i64 e12]), (gd, 29, [.bool b13, .slice p13 l13 K13, .int .i64 e13, .bool b14, .slice p14 l14 K14, .int .i64 e14]), (gp, 29, [.bool b15, .slice p15 l15 K15, .int .i64 e15, .bool b16, .slice p16 l16 K16, .int .i64 e16]), (gl, 27, [.bool b21, .slice p21 l21 K21, .int .i64 e21]), (gh, 27, [.bool b22, .slice p22 l22 K22, .int .i64 e22]), (gm, 27, [.bool b23, .slice p23 l23 K23, .int .i64 e23]), (gn, 27, [.bool b24, .slice p24 l24 K24, .int .i64 e24]), (ga, 27, [.bool b1, .slice p1 l1 K1, .int .i64 e1, .bool b2, .slice p2 l2 K2, .int .i64 e2]), (gx, 27, [.bool b1, .slice p1 l1 K1, .int .i64 e1]), (gb, 27, [.bool b3, .slice p3 l3 K3, .int .i64 e3, .bool b4, .slice p4 l4 K4, .int .i64 e4])]) rfl
                    go_roundw
                    case rel => exact .inr (.inl ⟨rfl, true, false, rfl, rfl, ⟨fun _ => .inr hq1, fun _ => rfl⟩, ⟨fun h => (by cases h), fun h => h.elim (fun h => absurd h Phh.out) (fun h => absurd h hq2)⟩, n1, n2, n3, n4, n15, n16, S⟩)
                    case measure => simp [intOf]
              ·
                obtain ⟨chq1, hchq1⟩ : ∃ c, cmpR (x1 * x3) lo = c := ⟨_, rfl⟩
                have zhq1 : (chq1 == 0) = false := by rw [← hchq1]; exact cmpR_ne hq1
                have HChq1 := Lib.hid hchq1
                clear hchq1; clear c4_0 c4_1 c4_2 c4_3 c4_4 c4_5 c13_0 c13_1 c13_2; obtain ⟨c4_0, c4_1, c4_2, c4_3, c4_4, c4_5⟩ := S.c6 4 rfl; obtain ⟨c13_0, c13_1, c13_2⟩ := S.c3 13 rfl; go_wp2_with fail; clear c4_0 c4_1 c4_2 c4_3 c4_4 c4_5 c13_0 c13_1 c13_2
                refine (S.call (dcompare_any (L := 400) (H := 1041) (IsD.mono (L := 400) (H := 1040) (L' := 400) (H' := 1041) ⟨b31, p31, l31, K31, m31, e31, rfl, h31, n31, d31⟩ (by decide) (by decide)) ⟨b15, p15, l15, K15, m15, e15, rfl, h15, n15, d15⟩ (by decide) chq1 HChq1.out)).mono ?_
                clear S
                rintro e w84 ⟨rfl, S, H⟩
                refine iv7 H n1 n2 n3 n4 n15 n16 n31 ?_; clear n1 n2 n3 n4 n15 n16 n31; intro n1 n2 n3 n4 n15 n16 n31
                clear H; obtain ⟨c4_0, c4_1, c4_2, c4_3, c4_4, c4_5⟩ := S.c6 4 rfl; obtain ⟨c13_0, c13_1, c13_2⟩ := S.c3 13 rfl
                by_cases zbh : bh = true
                ·
                  have Phh := Lib.hid (hh.out.1 zbh)
                  clear hh
                  subst zbh
                  go_wp2_with fail; clear c4_0 c4_1 c4_2 c4_3 c4_4 c4_5 c13_0 c13_1 c13_2
                  replace S := S.take 12 (L := [(w.heap.size, 29, [.bool b1, .slice p1 l1 K1, .int .i64 e1, .bool b2, .slice p2 l2 K2, .int .i64 e2]), (w.heap.size + 1, 29, [.bool b3, .slice p3 l3 K3, .int .i64 e3, .bool b4, .slice p4 l4 K4, .int .i64 e4]), (gs, 29, [.bool b11, .slice p11 l11 K11, .int .i64 e11, .bool b12, .slice p12 l12 K12, .int .i64 e12]), (gd, 29, [.bool b13, .slice p13 l13 K13, .int .i64 e13, .bool b14, .slice p14 l14 K14, .int .i64 e14]), (gp, 29, [.bool b15, .slice p15 l15 K15, .int .i64 e15, .bool b16, .slice p16 l16 K16, .int .i64 e16]), (gl, 27, [.bool b21, .slice p21 l21 K21, .int .i64 e21]), (gh, 27, [.bool b22, .slice p22 l22 K22, .int .i64 e22]), (gm, 27, [.bool b23, .slice p23 l23 K23, .int .i64 e23]), (gn, 27, [.bool b24, .slice p24 l24 K24, .int .i64 e24]), (ga, 27, [.bool b1, .slice p1 l1 K1, .int .i64 e1, .bool b2, .slice p2 l2 K2, .int .i64 e2]), (gx, 27, [.bool b1, .slice p1 l1 K1, .int .i64 e1]), (gb, 27, [.bool b3, .slice p3 l3 K3, .int .i64 e3, .bool b4, .slice p4 l4 K4, .int .i64 e4])]) rfl
                  go_roundw
                  case rel => exact .inr (.inl ⟨rfl, false, true, rfl, rfl, ⟨fun h => (by cases h), fun h => h.elim (fun h => absurd h Phl.out) (fun h => absurd h hq1)⟩, ⟨fun _ => .inl Phh.out, fun _ => rfl⟩, n1, n2, n3, n4, n15, n16, S⟩)
                  case measure => simp [intOf]
                ·
                  have Phh := Lib.hid (fun h => zbh (hh.out.2 h))
                  obtain rfl : bh = false := by simpa using zbh
                  clear hh zbh
                  by_cases hq2 : x1 * x3 = hi
                  ·
                    clear c4_0 c4_1 c4_2 c4_3 c4_4 c4_5 c13_0 c13_1 c13_2; obtain ⟨c4_0, c4_1, c4_2, c4_3, c4_4, c4_5⟩ := S.c6 4 rfl; obtain ⟨c13_0, c13_1, c13_2⟩ := S.c3 13 rfl; go_wp2_with fail; clear c4_0 c4_1 c4_2 c4_3 c4_4 c4_5 c13_0 c13_1 c13_2
                    refine (S.call (dcompare_any (L := 400) (H := 1041) (IsD.mono (L := 400) (H := 1040) (L' := 400) (H' := 1041) ⟨b31, p31, l31, K31, m31, e31, rfl, h31, n31, d31⟩ (by decide) (by decide)) ⟨b16, p16, l16, K16, m16, e16, rfl, h16, n16, d16⟩ (by decide) 0 (by rw [hq2]; exact cmpR_eq _))).mono ?_
                    clear S
                    rintro e w85 ⟨rfl, S, H⟩
                    refine iv7 H n1 n2 n3 n4 n15 n16 n31 ?_; clear n1 n2 n3 n4 n15 n16 n31; intro n1 n2 n3 n4 n15 n16 n31
                    clear H; obtain ⟨c4_0, c4_1, c4_2, c4_3, c4_4, c4_5⟩ := S.c6 4 rfl; obtain ⟨c13_0, c13_1, c13_2⟩ := S.c3 13 rfl; go_wp2_with fail; clear c4_0 c4_1 c4_2 c4_3 c4_4 c4_5 c13_0 c13_1 c13_2
                    replace S := S.take 12 (L := [(w.heap.size, 29, [.bool b1, .slice p1 l1 K1, .int .i64 e1, .bool b2, .slice p2 l2 K2, .int .i64 e2]), (w.heap.size + 1, 29, [.bool b3, .slice p3 l3 K3, .int .i64 e3, .bool b4, .slice p4 l4 K4, .int .i64 e4]), (gs, 29, [.bool b11, .slice p11 l11 K11, .int .i64 e11, .bool b12, .slice p12 l12 K12, .int .i64 e12]), (gd, 29, [.bool b13, .slice p13 l13 K13, .int .i64 e13, .bool b14, .slice p14 l14 K14, .int .i64 e14]), (gp, 29, [.bool b15, .slice p15 l15 K15, .int .i64 e15, .bool b16, .slice p16 l16 K16, .int .i64 e16]), (gl, 27, [.bool b21, .slice p21 l21 K21, .int .i64 e21]), (gh, 27, [.bool b22, .slice p22 l22 K22, .int .i64 e22]), (gm, 27, [.bool b23, .slice p23 l23 K23, .int .i64 e23]), (gn, 27, [.bool b24, .slice p24 l24 K24, .int .i64 e24]), (ga, 27, [.bool b1, .slice p1 l1 K1, .int .i64 e1, .bool b2, .slice p2 l2 K2, .int .i64 e2]), (gx, 27, [.bool b1, .slice p1 l1 K1, .int .i64 e1]), (gb, 27, [.bool b3, .slice p3 l3 K3, .int .i64 e3, .bool b4, .slice p4 l4 K4, .int .i64 e4])]) rfl
                    go_roundw
                    case rel => exact .inr (.inl ⟨rfl, false, true, rfl, rfl, ⟨fun h => (by cases h), fun h => h.elim (fun h => absurd h Phl.out) (fun h => absurd h hq1)⟩, ⟨fun _ => .inr hq2, fun _ => rfl⟩, n1, n2, n3, n4, n15, n16, S⟩)
                    case measure => simp [intOf]
                  ·
                    obtain ⟨chq2, hchq2⟩ : ∃ c, cmpR (x1 * x3) hi = c := ⟨_, rfl⟩
                    have zhq2 : (chq2 == 0) = false := by rw [← hchq2]; exact cmpR_ne hq2
                    have HChq2 := Lib.hid hchq2
                    clear hchq2; clear c4_0 c4_1 c4_2 c4_3 c4_4 c4_5 c13_0 c13_1 c13_2; obtain ⟨c4_0, c4_1, c4_2, c4_3, c4_4, c4_5⟩ := S.c6 4 rfl; obtain ⟨c13_0, c13_1, c13_2⟩ := S.c3 13 rfl; go_wp2_with fail; clear c4_0 c4_1 c4_2 c4_3 c4_4 c4_5 c13_0 c13_1 c13_2
                    refine (S.call (dcompare_any (L := 400) (H := 1041) (IsD.mono (L := 400) (H := 1040) (L' := 400) (H' := 1041) ⟨b31, p31, l31, K31, m31, e31, rfl, h31, n31, d31⟩ (by decide) (by decide)) ⟨b16, p16, l16, K16, m16, e16, rfl, h16, n16, d16⟩ (by decide) chq2 HChq2.out)).mono ?_
                    clear S
                    rintro e w85 ⟨rfl, S, H⟩
                    refine iv7 H n1 n2 n3 n4 n15 n16 n31 ?_; clear n1 n2 n3 n4 n15 n16 n31; intro n1 n2 n3 n4 n15 n16 n31
                    clear H; obtain ⟨c4_0, c4_1, c4_2, c4_3, c4_4, c4_5⟩ := S.c6 4 rfl; obtain ⟨c13_0, c13_1, c13_2⟩ := S.c3 13 rfl; go_wp2_with fail; clear c4_0 c4_1 c4_2 c4_3 c4_4 c4_5 c13_0 c13_1 c13_2
                    replace S := S.take 12 (L := [(w.heap.size, 29, [.bool b1, .slice p1 l1 K1, .int .i64 e1, .bool b2, .slice p2 l2 K2, .int .i64 e2]), (w.heap.size + 1, 29, [.bool b3, .slice p3 l3 K3, .int .i64 e3, .bool b4, .slice p4 l4 K4, .int .i64 e4]), (gs, 29, [.bool b11, .slice p11 l11 K11, .int .i64 e11, .bool b12, .slice p12 l12 K12, .int .i64 e12]), (gd, 29, [.bool b13, .slice p13 l13 K13, .int .i64 e13, .bool b14, .slice p14 l14 K14, .int .i64 e14]), (gp, 29, [.bool b15, .slice p15 l15 K15, .int .i64 e15, .bool b16, .slice p16 l16 K16, .int .i64 e16]), (gl, 27, [.bool b21, .slice p21 l21 K21, .int .i64 e21]), (gh, 27, [.bool b22, .slice p22 l22 K22, .int .i64 e22]), (gm, 27, [.bool b23, .slice p23 l23 K23, .int .i64 e23]), (gn, 27, [.bool b24, .slice p24 l24 K24, .int .i64 e24]), (ga, 27, [.bool b1, .slice p1 l1 K1, .int .i64 e1, .bool b2, .slice p2 l2 K2, .int .i64 e2]), (gx, 27, [.bool b1, .slice p1 l1 K1, .int .i64 e1]), (gb, 27, [.bool b3, .slice p3 l3 K3, .int .i64 e3, .bool b4, .slice p4 l4 K4, .int .i64 e4])]) rfl
                    go_roundw
                    case rel => exact .inr (.inl ⟨rfl, false, false, rfl, rfl, ⟨fun h => (by cases h), fun h => h.elim (fun h => absurd h Phl.out) (fun h => absurd h hq1)⟩, ⟨fun h => (by cases h), fun h => h.elim (fun h => absurd h Phh.out) (fun h => absurd h hq2)⟩, n1, n2, n3, n4, n15, n16, S⟩)
                    case measure => simp [intOf]
          ·
            obtain ⟨c11_0, c11_1, c11_2, c11_3, c11_4, c11_5⟩ := S.c6 11 rfl
            have H := S.hnew 27 [.bool b4, .slice p4 l4 K4, .int .i64 e4]
            replace S := S.al 27 [.bool b4, .slice p4 l4 K4, .int .i64 e4] (wr.heap.size)
            refine iv6 H n1 n2 n3 n4 n15 n16 ?_; clear n1 n2 n3 n4 n15 n16; intro n1 n2 n3 n4 n15 n16
            clear H
            go_upto_region 23 with fail
            clear c11_0 c11_1 c11_2 c11_3 c11_4 c11_5
            generalize (wr.alloc (.cells #[.bool b4, .slice p4 l4 K4, .int .i64 e4] 27)) = w81 at S n1 n2 n3 n4 n15 n16 ⊢
            obtain ⟨c10_0, c10_1, c10_2⟩ := S.c3 10 rfl; obtain ⟨c12_0, c12_1, c12_2⟩ := S.c3 12 rfl; go_wp2_with fail; clear c10_0 c10_1 c10_2 c12_0 c12_1 c12_2
            refine (S.call (dmul_any (L := 200) (H := 520) (M := 200) (I := 520) (HT.out.below S.below) ⟨b1, p1, l1, K1, m1, e1, rfl, h1, n1, d1⟩ ⟨b4, p4, l4, K4, m4, e4, rfl, h4, n4, d4⟩ (by decide) (x1 * x4) rfl)).mono ?_
            clear S
            rintro e w82 ⟨⟨_, rfl, b31, p31, l31, K31, m31, e31, rfl, h31, n31, d31⟩, S, H⟩
            refine iv6 H n1 n2 n3 n4 n15 n16 ?_; clear n1 n2 n3 n4 n15 n16; intro n1 n2 n3 n4 n15 n16
            clear H; obtain ⟨c10_0, c10_1, c10_2⟩ := S.c3 10 rfl; obtain ⟨c12_0, c12_1, c12_2⟩ := S.c3 12 rfl
            have H := S.hnew 27 [.bool b31, .slice p31 l31 K31, .int .i64 e31]
            replace S := S.al 27 [.bool b31, .slice p31 l31 K31, .int .i64 e31] (w82.heap.size)
            refine iv7 H n1 n2 n3 n4 n15 n16 n31 ?_; clear n1 n2 n3 n4 n15 n16 n31; intro n1 n2 n3 n4 n15 n16 n31
            clear H; clear c10_0 c10_1 c10_2 c12_0 c12_1 c12_2; obtain ⟨c4_0, c4_1, c4_2, c4_3, c4_4, c4_5⟩ := S.c6 4 rfl; obtain ⟨c13_0, c13_1, c13_2⟩ := S.c3 13 rfl; go_wp2_with fail
            generalize (.tuple #[.agg #[.bool b31, .slice p31 l31 K31, .int .i64 e31], .int .i64 0] : Value) = g1
            clear c4_0 c4_1 c4_2 c4_3 c4_4 c4_5 c13_0 c13_1 c13_2
            refine (S.call (shas_any (L := 400) (H := 1041) ⟨b15, p15, l15, K15, m15, e15, b16, p16, l16, K16, m16, e16, rfl, h15, n15, d15, h16, n16, d16⟩ (IsD.mono (L := 400) (H := 1040) (L' := 400) (H' := 1041) ⟨b31, p31, l31, K31, m31, e31, rfl, h31, n31, d31⟩ (by decide) (by decide)) (by decide) true (decide_eq_true ⟨Rat.not_lt.2 HB.out.1.2.1, Rat.not_lt.2 HB.out.1.2.2⟩))).mono ?_
            clear S
            rintro e w83 ⟨rfl, S, H⟩
            refine iv7 H n1 n2 n3 n4 n15 n16 n31 ?_; clear n1 n2 n3 n4 n15 n16 n31; intro n1 n2 n3 n4 n15 n16 n31
            clear H; obtain ⟨c4_0, c4_1, c4_2, c4_3, c4_4, c4_5⟩ := S.c6 4 rfl; obtain ⟨c13_0, c13_1, c13_2⟩ := S.c3 13 rfl
            by_cases zbl : bl = true
            ·
              have Phl := Lib.hid (hl.out.1 zbl)
              clear hl
              subst zbl
              by_cases zbh : bh = true
              ·
                have Phh := Lib.hid (hh.out.1 zbh)
                clear hh
                subst zbh
                go_wp2_with fail; clear c4_0 c4_1 c4_2 c4_3 c4_4 c4_5 c13_0 c13_1 c13_2
                replace S := S.take 12 (L := [(w.heap.size, 29, [.bool b1, .slice p1 l1 K1, .int .i64 e1, .bool b2, .slice p2 l2 K2, .int .i64 e2]), (w.heap.size + 1, 29, [.bool b3, .slice p3 l3 K3, .int .i64 e3, .bool b4, .slice p4 l4 K4, .int .i64 e4]), (gs, 29, [.bool b11, .slice p11 l11 K11, .int .i64 e11, .bool b12, .slice p12 l12 K12, .int .i64 e12]), (gd, 29, [.bool b13, .slice p13 l13 K13, .int .i64 e13, .bool b14, .slice p14 l14 K14, .int .i64 e14]), (gp, 29, [.bool b15, .slice p15 l15 K15, .int .i64 e15, .bool b16, .slice p16 l16 K16, .int .i64 e16]), (gl, 27, [.bool b21, .slice p21 l21 K21, .int .i64 e21]), (gh, 27, [.bool b22, .slice p22 l22 K22, .int .i64 e22]), (gm, 27, [.bool b23, .slice p23 l23 K23, .int .i64 e23]), (gn, 27, [.bool b24, .slice p24 l24 K24, .int .i64 e24]), (ga, 27, [.bool b1, .slice p1 l1 K1, .int .i64 e1, .bool b2, .slice p2 l2 K2, .int .i64 e2]), (gx, 27, [.bool b1, .slice p1 l1 K1, .int .i64 e1]), (gb, 27, [.bool b3, .slice p3 l3 K3, .int .i64 e3, .bool b4, .slice p4 l4 K4, .int .i64 e4])]) rfl
                go_roundw
                case rel => exact .inr (.inr ⟨rfl, true, true, rfl, rfl, ⟨fun _ => .inl Phl.out, fun _ => rfl⟩, ⟨fun _ => .inl Phh.out, fun _ => rfl⟩, n1, n2, n3, n4, n15, n16, S⟩)
                case measure => simp [intOf]
              ·
                have Phh := Lib.hid (fun h => zbh (hh.out.2 h))
                obtain rfl : bh = false := by simpa using zbh
                clear hh zbh
                by_cases hq2 : x1 * x4 = hi
                ·
                  clear c4_0 c4_1 c4_2 c4_3 c4_4 c4_5 c13_0 c13_1 c13_2; obtain ⟨c4_0, c4_1, c4_2, c4_3, c4_4, c4_5⟩ := S.c6 4 rfl; obtain ⟨c13_0, c13_1, c13_2⟩ := S.c3 13 rfl; go_wp2_with fail; clear c4_0 c4_1 c4_2 c4_3 c4_4 c4_5 c13_0 c13_1 c13_2
                  refine (S.call (dcompare_any (L := 400) (H := 1041) (IsD.mono (L := 400) (H := 1040) (L' := 400) (H' := 1041) ⟨b31, p31, l31, K31, m31, e31, rfl, h31, n31, d31⟩ (by decide) (by decide)) ⟨b16, p16, l16, K16, m16, e16, rfl, h16, n16, d16⟩ (by decide) 0 (by rw [hq2]; exact cmpR_eq _))).mono ?_
                  clear S
                  rintro e w84 ⟨rfl, S, H⟩
                  refine iv7 H n1 n2 n3 n4 n15 n16 n31 ?_; clear n1 n2 n3 n4 n15 n16 n31; intro n1 n2 n3 n4 n15 n16 n31
                  clear H; obtain ⟨c4_0, c4_1, c4_2, c4_3, c4_4, c4_5⟩ := S.c6 4 rfl; obtain ⟨c13_0, c13_1, c13_2⟩ := S.c3 13 rfl; go_wp2_with fail; clear c4_0 c4_1 c4_2 c4_3 c4_4 c4_5 c13_0 c13_1 c13_2
                  replace S := S.take 12 (L := [(w.heap.size, 29, [.bool b1, .slice p1 l1 K1, .int .i64 e1, .bool b2, .slice p2 l2 K2, .int .i64 e2]), (w.heap.size + 1, 29, [.bool b3, .slice p3 l3 K3, .int .i64 e3, .bool b4, .slice p4 l4 K4, .int .i64 e4]), (gs, 29, [.bool b11, .slice p11 l11 K11, .int .i64 e11, .bool b12, .slice p12 l12 K12, .int .i64 e12]), (gd, 29, [.bool b13, .slice p13 l13 K13, .int .i64 e13, .bool b14, .slice p14 l14 K14, .int .i64 e14]), (gp, 29, [.bool b15, .slice p15 l15 K15, .int .i64 e15, .bool b16, .slice p16 l16 K16, .int .i64 e16]), (gl, 27, [.bool b21, .slice p21 l21 K21, .int .i64 e21]), (gh, 27, [.bool b22, .slice p22 l22 K22, .int .i64 e22]), (gm, 27, [.bool b23, .slice p23 l23 K23, .int .i64 e23]), (gn, 27, [.bool b24, .slice p24 l24 K24, .int .i64 e24]), (ga, 27, [.bool b1, .slice p1 l1 K1, .int .i64 e1, .bool b2, .slice p2 l2 K2, .int .i64 e2]), (gx, 27, [.bool b1, .slice p1 l1 K1, .int .i64 e1]), (gb, 27, [.bool b3, .slice p3 l3 K3, .int .i64 e3, .bool b4, .slice p4 l4 K4, .int .i64 e4])]) rfl
                  go_roundw
                  case rel => exact .inr (.inr ⟨rfl, true, true, rfl, rfl, ⟨fun _ => .inl Phl.out, fun _ => rfl⟩, ⟨fun _ => .inr hq2, fun _ => rfl⟩, n1, n2, n3, n4, n15, n16, S⟩)
                  case measure => simp [intOf]
                ·
                  obtain ⟨chq2, hchq2⟩ : ∃ c, cmpR (x1 * x4) hi = c := ⟨_, rfl⟩
                  have zhq2 : (chq2 == 0) = false := by rw [← hchq2]; exact cmpR_ne hq2
                  have HChq2 := Lib.hid hchq2
                  clear hchq2; clear c4_0 c4_1 c4_2 c4_3 c4_4 c4_5 c13_0 c13_1 c13_2; obtain ⟨c4_0, c4_1, c4_2, c4_3, c4_4, c4_5⟩ := S.c6 4 rfl; obtain ⟨c13_0, c13_1, c13_2⟩ := S.c3 13 rfl; go_wp2_with fail; clear c4_0 c4_1 c4_2 c4_3 c4_4 c4_5 c13_0 c13_1 c13_2
                  refine (S.call (dcompare_any (L := 400) (H := 1041) (IsD.mono (L := 400) (H := 1040) (L' := 400) (H' := 1041) ⟨b31, p31, l31, K31, m31, e31, rfl, h31, n31, d31⟩ (by decide) (by decide)) ⟨b16, p16, l16, K16, m16, e16, rfl, h16, n16, d16⟩ (by decide) chq2 HChq2.out)).mono ?_
                  clear S
                  rintro e w84 ⟨rfl, S, H⟩
                  refine iv7 H n1 n2 n3 n4 n15 n16 n31 ?_; clear n1 n2 n3 n4 n15 n16 n31; intro n1 n2 n3 n4 n15 n16 n31
                  clear H; obtain ⟨c4_0, c4_1, c4_2, c4_3, c4_4, c4_5⟩ := S.c6 4 rfl; obtain ⟨c13_0, c13_1, c13_2⟩ := S.c3 13 rfl; go_wp2_with fail; clear c4_0 c4_1 c4_2 c4_3 c4_4 c4_5 c13_0 c13_1 c13_2
                  replace S := S.take 12 (L := [(w.heap.size, 29, [.bool b1, .slice p1 l1 K1, .int .i64 e1, .bool b2, .slice p2 l2 K2, .int .i64 e2]), (w.heap.size + 1, 29, [.bool b3, .slice p3 l3 K3, .int .i64 e3, .bool b4, .slice p4 l4 K4, .int .i64 e4]), (gs, 29, [.bool b11, .slice p11 l11 K11, .int .i64 e11, .bool b12, .slice p12 l12 K12, .int .i64 e12]), (gd, 29, [.bool b13, .slice p13 l13 K13, .int .i64 e13, .bool b14, .slice p14 l14 K14, .int .i64 e14]), (gp, 29, [.bool b15, .slice p15 l15 K15, .int .i64 e15, .bool b16, .slice p16 l16 K16, .int .i64 e16]), (gl, 27, [.bool b21, .slice p21 l21 K21, .int .i64 e21]), (gh, 27, [.bool b22, .slice p22 l22 K22, .int .i64 e22]), (gm, 27, [.bool b23, .slice p23 l23 K23, .int .i64 e23]), (gn, 27, [.bool b24, .slice p24 l24 K24, .int .i64 e24]), (ga, 27, [.bool b1, .slice p1 l1 K1, .int .i64 e1, .bool b2, .slice p2 l2 K2, .int .i64 e2]), (gx, 27, [.bool b1, .slice p1 l1 K1, .int .i64 e1]), (gb, 27, [.bool b3, .slice p3 l3 K3, .int .i64 e3, .bool b4, .slice p4 l4 K4, .int .i64 e4])]) rfl
                  go_roundw
                  case rel => exact .inr (.inr ⟨rfl, true, false, rfl, rfl, ⟨fun _ => .inl Phl.out, fun _ => rfl⟩, ⟨fun h => (by cases h), fun h => h.elim (fun h => absurd h Phh.out) (fun h => absurd h hq2)⟩, n1, n2, n3, n4, n15, n16, S⟩)
                  case measure => simp [intOf]
            ·
              have Phl := Lib.hid (fun h => zbl (hl.out.2 h))
              obtain rfl : bl = false := by simpa using zbl
              clear hl zbl
              by_cases hq1 : x1 * x4 = lo
              ·
                clear c4_0 c4_1 c4_2 c4_3 c4_4 c4_5 c13_0 c13_1 c13_2; obtain ⟨c4_0, c4_1, c4_2, c4_3, c4_4, c4_5⟩ := S.c6 4 rfl; obtain ⟨c13_0, c13_1, c13_2⟩ := S.c3 13 rfl; go_wp2_with fail; clear c4_0 c4_1 c4_2 c4_3 c4_4 c4_5 c13_0 c13_1 c13_2
                refine (S.call (dcompare_any (L := 400) (H := 1041) (IsD.mono (L := 400) (H := 1040) (L' := 400) (H' := 1041) ⟨b31, p31, l31, K31, m31, e31, rfl, h31, n31, d31⟩ (by decide) (by decide)) ⟨b15, p15, l15, K15, m15, e15, rfl, h15, n15, d15⟩ (by decide) 0 (by rw [hq1]; exact cmpR_eq _))).mono ?_
                clear S
                rintro e w84 ⟨rfl, S, H⟩
                refine iv7 H n1 n2 n3 n4 n15 n16 n31 ?_; clear n1 n2 n3 n4 n15 n16 n31; intro n1 n2 n3 n4 n15 n16 n31
                clear H; obtain ⟨c4_0, c4_1, c4_2, c4_3, c4_4, c4_5⟩ := S.c6 4 rfl; obtain ⟨c13_0, c13_1, c13_2⟩ := S.c3 13 rfl
                by_cases zbh : bh = true
                ·
                  have Phh := Lib.hid (hh.out.1 zbh)
                  clear hh
                  subst zbh
                  go_wp2_with fail; clear c4_0 c4_1 c4_2 c4_3 c4_4 c4_5 c13_0 c13_1 c13_2
                  replace S := S.take 12 (L := [(w.heap.size, 29, [.bool b1, .slice p1 l1 K1, .int .i64 e1, .bool b2, .slice p2 l2 K2, .int .i64 e2]), (w.heap.size + 1, 29, [.bool b3, .slice p3 l3 K3, .int .i64 e3, .bool b4, .slice p4 l4 K4, .int .i64 e4]), (gs, 29, [.bool b11, .slice p11 l11 K11, .int .i64 e11, .bool b12, .slice p12 l12 K12, .int .i64 e12]), (gd, 29, [.bool b13, .slice p13 l13 K13, .int .i64 e13, .bool b14, .slice p14 l14 K14, .int .i64 e14]), (gp, 29, [.bool b15, .slice p15 l15 K15, .int .i64 e15, .bool b16, .slice p16 l16 K16, .int .i64 e16]), (gl, 27, [.bool b21, .slice p21 l21 K21, .int .i64 e21]), (gh, 27, [.bool b22, .slice p22 l22 K22, .int .i64 e22]), (gm, 27, [.bool b23, .slice p23 l23 K23, .int .i64 e23]), (gn, 27, [.bool b24, .slice p24 l24 K24, .int .i64 e24]), (ga, 27, [.bool b1, .slice p1 l1 K1, .int .i64 e1, .bool b2, .slice p2 l2 K2, .int .i64 e2]), (gx, 27, [.bool b1, .slice p1 l1 K1, .int .i64 e1]), (gb, 27, [.bool b3, .slice p3 l3 K3, .int .i64 e3, .bool b4, .slice p4 l4 K4, .int .i64 e4])]) rfl
                  go_roundw
                  case rel => exact .inr (.inr ⟨rfl, true, true, rfl, rfl, ⟨fun _ => .inr hq1, fun _ => rfl⟩, ⟨fun _ => .inl Phh.out, fun _ => rfl⟩, n1, n2, n3, n4, n15, n16, S⟩)
                  case measure => simp [intOf]
                ·
                  have Phh := Lib.hid (fun h => zbh (hh.out.2 h))
                  obtain rfl : bh = false := by simpa using zbh
                  clear hh zbh
                  by_cases hq2 : x1 * x4 = hi
                  ·
                    clear c4_0 c4_1 c4_2 c4_3 c4_4 c4_5 c13_0 c13_1 c13_2; obtain ⟨c4_0, c4_1, c4_2, c4_3, c4_4, c4_5⟩ := S.c6 4 rfl; obtain ⟨c13_0, c13_1, c13_2⟩ := S.c3 13 rfl; go_wp2_with fail; clear c4_0 c4_1 c4_2 c4_3 c4_4 c4_5 c13_0 c13_1 c13_2
                    refine (S.call (dcompare_any (L := 400) (H := 1041) (IsD.mono (L := 400) (H := 1040) (L' := 400) (H' := 1041) ⟨b31, p31, l31, K31, m31, e31, rfl, h31, n31, d31⟩ (by decide) (by decide)) ⟨b16, p16, l16, K16, m16, e16, rfl, h16, n16, d16⟩ (by decide) 0 (by rw [hq2]; exact cmpR_eq _))).mono ?_
                    clear S
                    rintro e w85 ⟨rfl, S, H⟩
                    refine iv7 H n1 n2 n3 n4 n15 n16 n31 ?_; clear n1 n2 n3 n4 n15 n16 n31; intro n1 n2 n3 n4 n15 n16 n31
                    clear H; obtain ⟨c4_0, c4_1, c4_2, c4_3, c4_4, c4_5⟩ := S.c6 4 rfl; obtain ⟨c13_0, c13_1, c13_2⟩ := S.c3 13 rfl; go_wp2_with fail; clear c4_0 c4_1 c4_2 c4_3 c4_4 c4_5 c13_0 c13_1 c13_2
                    replace S := S.take 12 (L := [(w.heap.size, 29, [.bool b1, .slice p1 l1 K1, .int .i64 e1, .bool b2, .slice p2 l2 K2, .int .i64 e2]), (w.heap.size + 1, 29, [.bool b3, .slice p3 l3 K3, .int .i64 e3, .bool b4, .slice p4 l4 K4, .int .i64 e4]), (gs, 29, [.bool b11, .slice p11 l11 K11, .int .i64 e11, .bool b12, .slice p12 l12 K12, .int .i64 e12]), (gd, 29, [.bool b13, .slice p13 l13 K13, .int .i64 e13, .bool b14, .slice p14 l14 K14, .int .i64 e14]), (gp, 29, [.bool b15, .slice p15 l15 K15, .int .i64 e15, .bool b16, .slice p16 l16 K16, .int .i64 e16]), (gl, 27, [.bool b21, .slice p21 l21 K21, .int .i64 e21]), (gh, 27, [.bool b22, .slice p22 l22 K22, .int .i64 e22]), (gm, 27, [.bool b23, .slice p23 l23 K23, .int .i64 e23]), (gn, 27, [.bool b24, .slice p24 l24 K24, .int .i64 e24]), (ga, 27, [.bool b1, .slice p1 l1 K1, .int .i64 e1, .bool b2, .slice p2 l2 K2, .int .i64 e2]), (gx, 27, [.bool b1, .slice p1 l1 K1, .int .i64 e1]), (gb, 27, [.bool b3, .slice p3 l3 K3, .int .i64 e3, .bool b4, .slice p4 l4 K4, .int .i64 e4])]) rfl
                    go_roundw
                    case rel => exact .inr (.inr ⟨rfl, true, true, rfl, rfl, ⟨fun _ => .inr hq1, fun _ => rfl⟩, ⟨fun _ => .inr hq2, fun _ => rfl⟩, n1, n2, n3, n4, n15, n16, S⟩)
                    case measure => simp [intOf]
                  ·
                    obtain ⟨chq2, hchq2⟩ : ∃ c, cmpR (x1 * x4) hi = c := ⟨_, rfl⟩
                    have zhq2 : (chq2 == 0) = false := by rw [← hchq2]; exact cmpR_ne hq2
                    have HChq2 := Lib.hid hchq2
                    clear hchq2; clear c4_0 c4_1 c4_2 c4_3 c4_4 c4_5 c13_0 c13_1 c13_2; obtain ⟨c4_0, c4_1, c4_2, c4_3, c4_4, c4_5⟩ := S.c6 4 rfl; obtain ⟨c13_0, c13_1, c13_2⟩ := S.c3 13 rfl; go_wp2_with fail; clear c4_0 c4_1 c4_2 c4_3 c4_4 c4_5 c13_0 c13_1 c13_2
                    refine (S.call (dcompare_any (L := 400) (H := 1041) (IsD.mono (L := 400) (H := 1040) (L' := 400) (H' := 1041) ⟨b31, p31, l31, K31, m31, e31, rfl, h31, n31, d31⟩ (by decide) (by decide)) ⟨b16, p16, l16, K16, m16, e16, rfl, h16, n16, d16⟩ (by decide) chq2 HChq2.out)).mono ?_
                    clear S
                    rintro e w85 ⟨rfl, S, H⟩
                    refine iv7 H n1 n2 n3 n4 n15 n16 n31 ?_; clear n1 n2 n3 n4 n15 n16 n31; intro n1 n2 n3 n4 n15 n16 n31
                    clear H; obtain ⟨c4_0, c4_1, c4_2, c4_3, c4_4, c4_5⟩ := S.c6 4 rfl; obtain ⟨c13_0, c13_1, c13_2⟩ := S.c3 13 rfl; go_wp2_with fail; clear c4_0 c4_1 c4_2 c4_3 c4_4 c4_5 c13_0 c13_1 c13_2
                    replace S := S.take 12 (L := [(w.heap.size, 29, [.bool b1, .slice p1 l1 K1, .int .i64 e1, .bool b2, .slice p2 l2 K2, .int .i64 e2]), (w.heap.size + 1, 29, [.bool b3, .slice p3 l3 K3, .int .i64 e3, .bool b4, .slice p4 l4 K4, .int .i64 e4]), (gs, 29, [.bool b11, .slice p11 l11 K11, .int .i64 e11, .bool b12, .slice p12 l12 K12, .int .i64 e12]), (gd, 29, [.bool b13, .slice p13 l13 K13, .int .i64 e13, .bool b14, .slice p14 l14 K14, .int .i64 e14]), (gp, 29, [.bool b15, .slice p15 l15 K15, .int .i64 e15, .bool b16, .slice p16 l16 K16, .int .i64 e16]), (gl, 27, [.bool b21, .slice p21 l21 K21, .int .i64 e21]), (gh, 27, [.bool b22, .slice p22 l22 K22, .int .i64 e22]), (gm, 27, [.bool b23, .slice p23 l23 K23, .int .i64 e23]), (gn, 27, [.bool b24, .slice p24 l24 K24, .int .i64 e24]), (ga, 27, [.bool b1, .slice p1 l1 K1, .int .i64 e1, .bool b2, .slice p2 l2 K2, .int .i64 e2]), (gx, 27, [.bool b1, .slice p1 l1 K1, .int .i64 e1]), (gb, 27, [.bool b3, .slice p3 l3 K3, .int .i64 e3, .bool b4, .slice p4 l4 K4, .int .i64 e4])]) rfl
                    go_roundw
                    case rel => exact .inr (.inr ⟨rfl, true, false, rfl, rfl, ⟨fun _ => .inr hq1, fun _ => rfl⟩, ⟨fun h => (by cases h), fun h => h.elim (fun h => absurd h Phh.out) (fun h => absurd h hq2)⟩, n1, n2, n3, n4, n15, n16, S⟩)
                    case measure => simp [intOf]
              ·
                obtain ⟨chq1, hchq1⟩ : ∃ c, cmpR (x1 * x4) lo = c := ⟨_, rfl⟩
                have zhq1 : (chq1 == 0) = false := by rw [← hchq1]; exact cmpR_ne hq1
                have HChq1 := Lib.hid hchq1
                clear hchq1; clear c4_0 c4_1 c4_2 c4_3 c4_4 c4_5 c13_0 c13_1 c13_2; obtain ⟨c4_0, c4_1, c4_2, c4_3, c4_4, c4_5⟩ := S.c6 4 rfl; obtain ⟨c13_0, c13_1, c13_2⟩ := S.c3 13 rfl; go_wp2_with fail; clear c4_0 c4_1 c4_2 c4_3 c4_4 c4_5 c13_0 c13_1 c13_2
                refine (S.call (dcompare_any (L := 400) (H := 1041) (IsD.mono (L := 400) (H := 1040) (L' := 400) (H' := 1041) ⟨b31, p31, l31, K31, m31, e31, rfl, h31, n31, d31⟩ (by decide) (by decide)) ⟨b15, p15, l15, K15, m15, e15, rfl, h15, n15, d15⟩ (by decide) chq1 HChq1.out)).mono ?_
                clear S
                rintro e w84 ⟨rfl, S, H⟩
                refine iv7 H n1 n2 n3 n4 n15 n16 n31 ?_; clear n1 n2 n3 n4 n15 n16 n31; intro n1 n2 n3 n4 n15 n16 n31
                clear H; obtain ⟨c4_0, c4_1, c4_2, c4_3, c4_4, c4_5⟩ := S.c6 4 rfl; obtain ⟨c13_0, c13_1, c13_2⟩ := S.c3 13 rfl
                by_cases zbh : bh = true
                ·
                  have Phh := Lib.hid (hh.out.1 zbh)
                  clear hh
                  subst zbh
                  go_wp2_with fail; clear c4_0 c4_1 c4_2 c4_3 c4_4 c4_5 c13_0 c13_1 c13_2
                  replace S := S.take 12 (L := [(w.heap.size, 29, [.bool b1, .slice p1 l1 K1, .int .i64 e1, .bool b2, .slice p2 l2 K2, .int .i64 e2]), (w.heap.size + 1, 29, [.bool b3, .slice p3 l3 K3, .int .i64 e3, .bool b4, .slice p4 l4 K4, .int .i64 e4]), (gs, 29, [.bool b11, .slice p11 l11 K11, .int .i64 e11, .bool b12, .slice p12 l12 K12, .int .i64 e12]), (gd, 29, [.bool b13, .slice p13 l13 K13, .int .i64 e13, .bool b14, .slice p14 l14 K14, .int .i64 e14]), (gp, 29, [.bool b15, .slice p15 l15 K15, .int .i64 e15, .bool b16, .slice p16 l16 K16, .int .i64 e16]), (gl, 27, [.bool b21, .slice p21 l21 K21, .int .i64 e21]), (gh, 27, [.bool b22, .slice p22 l22 K22, .int .i64 e22]), (gm, 27, [.bool b23, .slice p23 l23 K23, .int .i64 e23]), (gn, 27, [.bool b24, .slice p24 l24 K24, .int .i64 e24]), (ga, 27, [.bool b1, .slice p1 l1 K1, .int .i64 e1, .bool b2, .slice p2 l2 K2, .int .i64 e2]), (gx, 27, [.bool b1, .slice p1 l1 K1, .int .i64 e1]), (gb, 27, [.bool b3, .slice p3 l3 K3, .int .i64 e3, .bool b4, .slice p4 l4 K4, .int .i64 e4])]) rfl
                  go_roundw
                  case rel => exact .inr (.inr ⟨rfl, false, true, rfl, rfl, ⟨fun h => (by cases h), fun h => h.elim (fun h => absurd h Phl.out) (fun h => absurd h hq1)⟩, ⟨fun _ => .inl Phh.out, fun _ => rfl⟩, n1, n2, n3, n4, n15, n16, S⟩)
                  case measure => simp [intOf]
                ·
                  have Phh := Lib.hid (fun h => zbh (hh.out.2 h))
                  obtain rfl : bh = false := by simpa using zbh
                  clear hh zbh
                  by_cases hq2 : x1 * x4 = hi
                  ·
                    clear c4_0 c4_1 c4_2 c4_3 c4_4 c4_5 c13_0 c13_1 c13_2; obtain ⟨c4_0, c4_1, c4_2, c4_3, c4_4, c4_5⟩ := S.c6 4 rfl; obtain ⟨c13_0, c13_1, c13_2⟩ := S.c3 13 rfl; go_wp2_with fail; clear c4_0 c4_1 c4_2 c4_3 c4_4 c4_5 c13_0 c13_1 c13_2
                    refine (S.call (dcompare_any (L := 400) (H := 1041) (IsD.mono (L := 400) (H := 1040) (L' := 400) (H' := 1041) ⟨b31, p31, l31, K31, m31, e31, rfl, h31, n31, d31⟩ (by decide) (by decide)) ⟨b16, p16, l16, K16, m16, e16, rfl, h16, n16, d16⟩ (by decide) 0 (by rw [hq2]; exact cmpR_eq _))).mono ?_
                    clear S
                    rintro e w85 ⟨rfl, S, H⟩
                    refine iv7 H n1 n2 n3 n4 n15 n16 n31 ?_; clear n1 n2 n3 n4 n15 n16 n31; intro n1 n2 n3 n4 n15 n16 n31
                    clear H; obtain ⟨c4_0, c4_1, c4_2, c4_3, c4_4, c4_5⟩ := S.c6 4 rfl; obtain ⟨c13_0, c13_1, c13_2⟩ := S.c3 13 rfl; go_wp2_with fail; clear c4_0 c4_1 c4_2 c4_3 c4_4 c4_5 c13_0 c13_1 c13_2
                    replace S := S.take 12 (L := [(w.heap.size, 29, [.bool b1, .slice p1 l1 K1, .int .i64 e1, .bool b2, .slice p2 l2 K2, .int .i64 e2]), (w.heap.size + 1, 29, [.bool b3, .slice p3 l3 K3, .int .i64 e3, .bool b4, .slice p4 l4 K4, .int .i64 e4]), (gs, 29, [.bool b11, .slice p11 l11 K11, .int .i64 e11, .bool b12, .slice p12 l12 K12, .int .i64 e12]), (gd, 29, [.bool b13, .slice p13 l13 K13, .int .i64 e13, .bool b14, .slice p14 l14 K14, .int .i64 e14]), (gp, 29, [.bool b15, .slice p15 l15 K15, .int .i64 e15, .bool b16, .slice p16 l16 K16, .int .i64 e16]), (gl, 27, [.bool b21, .slice p21 l21 K21, .int .i64 e21]), (gh, 27, [.bool b22, .slice p22 l22 K22, .int .i64 e22]), (gm, 27, [.bool b23, .slice p23 l23 K23, .int .i64 e23]), (gn, 27, [.bool b24, .slice p24 l24 K24, .int .i64 e24]), (ga, 27, [.bool b1, .slice p1 l1 K1, .int .i64 e1, .bool b2, .slice p2 l2 K2, .int .i64 e2]), (gx, 27, [.bool b1, .slice p1 l1 K1, .int .i64 e1]), (gb, 27, [.bool b3, .slice p3 l3 K3, .int .i64 e3, .bool b4, .slice p4 l4 K4, .int .i64 e4])]) rfl
                    go_roundw
                    case rel => exact .inr (.inr ⟨rfl, false, true, rfl, rfl, ⟨fun h => (by cases h), fun h => h.elim (fun h => absurd h Phl.out) (fun h => absurd h hq1)⟩, ⟨fun _ => .inr hq2, fun _ => rfl⟩, n1, n2, n3, n4, n15, n16, S⟩)
                    case measure => simp [intOf]
                  ·
                    obtain ⟨chq2, hchq2⟩ : ∃ c, cmpR (x1 * x4) hi = c := ⟨_, rfl⟩
                    have zhq2 : (chq2 == 0) = false := by rw [← hchq2]; exact cmpR_ne hq2
                    have HChq2 := Lib.hid hchq2
                    clear hchq2; clear c4_0 c4_1 c4_2 c4_3 c4_4 c4_5 c13_0 c13_1 c13_2; obtain ⟨c4_0, c4_1, c4_2, c4_3, c4_4, c4_5⟩ := S.c6 4 rfl; obtain ⟨c13_0, c13_1, c13_2⟩ := S.c3 13 rfl; go_wp2_with fail; clear c4_0 c4_1 c4_2 c4_3 c4_4 c4_5 c13_0 c13_1 c13_2
                    refine (S.call (dcompare_any (L := 400) (H := 1041) (IsD.mono (L := 400) (H := 1040) (L' := 400) (H' := 1041) ⟨b31, p31, l31, K31, m31, e31, rfl, h31, n31, d31⟩ (by decide) (by decide)) ⟨b16, p16, l16, K16, m16, e16, rfl, h16, n16, d16⟩ (by decide) chq2 HChq2.out)).mono ?_
                    clear S
                    rintro e w85 ⟨rfl, S, H⟩
                    refine iv7 H n1 n2 n3 n4 n15 n16 n31 ?_; clear n1 n2 n3 n4 n15 n16 n31; intro n1 n2 n3 n4 n15 n16 n31
                    clear H; obtain ⟨c4_0, c4_1, c4_2, c4_3, c4_4, c4_5⟩ := S.c6 4 rfl; obtain ⟨c13_0, c13_1, c13_2⟩ := S.c3 13 rfl; go_wp2_with fail; clear c4_0 c4_1 c4_2 c4_3 c4_4 c4_5 c13_0 c13_1 c13_2
                    replace S := S.take 12 (L := [(w.heap.size, 29, [.bool b1, .slice p1 l1 K1, .int .i64 e1, .bool b2, .slice p2 l2 K2, .int .i64 e2]), (w.heap.size + 1, 29, [.bool b3, .slice p3 l3 K3, .int .i64 e3, .bool b4, .slice p4 l4 K4, .int .i64 e4]), (gs, 29, [.bool b11, .slice p11 l11 K11, .int .i64 e11, .bool b12, .slice p12 l12 K12, .int .i64 e12]), (gd, 29, [.bool b13, .slice p13 l13 K13, .int .i64 e13, .bool b14, .slice p14 l14 K14, .int .i64 e14]), (gp, 29, [.bool b15, .slice p15 l15 K15, .int .i64 e15, .bool b16, .slice p16 l16 K16, .int .i64 e16]), (gl, 27, [.bool b21, .slice p21 l21 K21, .int .i64 e21]), (gh, 27, [.bool b22, .slice p22 l22 K22, .int .i64 e22]), (gm, 27, [.bool b23, .slice p23 l23 K23, .int .i64 e23]), (gn, 27, [.bool b24, .slice p24 l24 K24, .int .i64 e24]), (ga, 27, [.bool b1, .slice p1 l1 K1, .int .i64 e1, .bool b2, .slice p2 l2 K2, .int .i64 e2]), (gx, 27, [.bool b1, .slice p1 l1 K1, .int .i64 e1]), (gb, 27, [.bool b3, .slice p3 l3 K3, .int .i64 e3, .bool b4, .slice p4 l4 K4, .int .i64 e4])]) rfl
                    go_roundw
                    case rel => exact .inr (.inr ⟨rfl, false, false, rfl, rfl, ⟨fun h => (by cases h), fun h => h.elim (fun h => absurd h Phl.out) (fun h => absurd h hq1)⟩, ⟨fun h => (by cases h), fun h => h.elim (fun h => absurd h Phh.out) (fun h => absurd h hq2)⟩, n1, n2, n3, n4, n15, n16, S⟩)
                    case measure => simp [intOf]
          ·
            go_wp2_with fail
            replace S := S.take 10 (L := [(w.heap.size, 29, [.bool b1, .slice p1 l1 K1, .int .i64 e1, .bool b2, .slice p2 l2 K2, .int .i64 e2]), (w.heap.size + 1, 29, [.bool b3, .slice p3 l3 K3, .int .i64 e3, .bool b4, .slice p4 l4 K4, .int .i64 e4]), (gs, 29, [.bool b11, .slice p11 l11 K11, .int .i64 e11, .bool b12, .slice p12 l12 K12, .int .i64 e12]), (gd, 29, [.bool b13, .slice p13 l13 K13, .int .i64 e13, .bool b14, .slice p14 l14 K14, .int .i64 e14]), (gp, 29, [.bool b15, .slice p15 l15 K15, .int .i64 e15, .bool b16, .slice p16 l16 K16, .int .i64 e16]), (gl, 27, [.bool b21, .slice p21 l21 K21, .int .i64 e21]), (gh, 27, [.bool b22, .slice p22 l22 K22, .int .i64 e22]), (gm, 27, [.bool b23, .slice p23 l23 K23, .int .i64 e23]), (gn, 27, [.bool b24, .slice p24 l24 K24, .int .i64 e24]), (ga, 27, [.bool b1, .slice p1 l1 K1, .int .i64 e1, .bool b2, .slice p2 l2 K2, .int .i64 e2])]) rfl
            go_roundw
            case rel => exact .inr (.inl ⟨rfl, bl, bh, rfl, rfl, hl, hh, n1, n2, n3, n4, n15, n16, S⟩)
            case measure => simp [intOf]
      ·
        obtain ⟨c9_0, c9_1, c9_2, c9_3, c9_4, c9_5⟩ := S.c6 9 rfl
        have H := S.hnew 27 [.bool b2, .slice p2 l2 K2, .int .i64 e2]
        replace S := S.al 27 [.bool b2, .slice p2 l2 K2, .int .i64 e2] (wr.heap.size)
        refine iv6 H n1 n2 n3 n4 n15 n16 ?_; clear n1 n2 n3 n4 n15 n16; intro n1 n2 n3 n4 n15 n16
        clear H
        go_upto_region 20 with fail
        clear c9_0 c9_1 c9_2 c9_3 c9_4 c9_5
        generalize (wr.alloc (.cells #[.bool b2, .slice p2 l2 K2, .int .i64 e2] 27)) = w61 at S n1 n2 n3 n4 n15 n16 ⊢
        obtain ⟨gx, hgx⟩ : ∃ g, wr.heap.size = g := ⟨_, rfl⟩
        rw [hgx] at S ⊢
        clear hgx; obtain ⟨c1_0, c1_1, c1_2, c1_3, c1_4, c1_5⟩ := S.c6 1 rfl
        have H := S.hnew 27 [.bool b3, .slice p3 l3 K3, .int .i64 e3, .bool b4, .slice p4 l4 K4, .int .i64 e4]
        replace S := S.al 27 [.bool b3, .slice p3 l3 K3, .int .i64 e3, .bool b4, .slice p4 l4 K4, .int .i64 e4] (w61.heap.size)
        refine iv6 H n1 n2 n3 n4 n15 n16 ?_; clear n1 n2 n3 n4 n15 n16; intro n1 n2 n3 n4 n15 n16
        clear H; go_wp2_with fail; clear c1_0 c1_1 c1_2 c1_3 c1_4 c1_5
        generalize (w61.alloc (.cells #[.bool b3, .slice p3 l3 K3, .int .i64 e3, .bool b4, .slice p4 l4 K4, .int .i64 e4] 27)) = w62 at S n1 n2 n3 n4 n15 n16 ⊢
        obtain ⟨gb, hgb⟩ : ∃ g, w61.heap.size = g := ⟨_, rfl⟩
        rw [hgb] at S ⊢
        clear hgb
        go_loopw [136, 19, 20] (fun si sl sh wr => (si = .int .i64 0 ∧ ∃ bl bh : Bool, sl = .bool bl ∧ sh = .bool bh ∧ Hid (bl = true ↔ ((False ∨ x1 * x3 = lo) ∨ x1 * x4 = lo)) ∧ Hid (bh = true ↔ ((False ∨ x1 * x3 = hi) ∨ x1 * x4 = hi)) ∧ IsNat wr (.slice p1 l1 K1) m1.natAbs ∧ IsNat wr (.slice p2 l2 K2) m2.natAbs ∧ IsNat wr (.slice p3 l3 K3) m3.natAbs ∧ IsNat wr (.slice p4 l4 K4) m4.natAbs ∧ IsNat wr (.slice p15 l15 K15) m15.natAbs ∧ IsNat wr (.slice p16 l16 K16) m16.natAbs ∧ St w wr [(w.heap.size, 29, [.bool b1, .slice p1 l1 K1, .int .i64 e1, .bool b2, .slice p2 l2 K2, .int .i64 e2]), (w.heap.size + 1, 29, [.bool b3, .slice p3 l3 K3, .int .i64 e3, .bool b4, .slice p4 l4 K4, .int .i64 e4]), (gs, 29, [.bool b11, .slice p11 l11 K11, .int .i64 e11, .bool b12, .slice p12 l12 K12, .int .i64 e12]), (gd, 29, [.bool b13, .slice p13 l13 K13, .int .i64 e13, .bool b14, .slice p14 l14 K14, .int .i64 e14]), (gp, 29, [.bool b15, .slice p15 l15 K15, .int .i64 e15, .bool b16, .slice p16 l16 K16, .int .i64 e16]), (gl, 27, [.bool b21, .slice p21 l21 K21, .int .i64 e21]), (gh, 27, [.bool b22, .slice p22 l22 K22, .int .i64 e22]), (gm, 27, [.bool b23, .slice p23 l23 K23, .int .i64 e23]), (gn, 27, [.bool b24, .slice p24 l24 K24, .int .i64 e24]), (ga, 27, [.bool b1, .slice p1 l1 K1, .int .i64 e1, .bool b2, .slice p2 l2 K2, .int .i64 e2]), (gx, 27, [.bool b2, .slice p2 l2 K2, .int .i64 e2]), (gb, 27, [.bool b3, .slice p3 l3 K3, .int .i64 e3, .bool b4, .slice p4 l4 K4, .int .i64 e4])]) ∨ (si = .int .i64 1 ∧ ∃ bl bh : Bool, sl = .bool bl ∧ sh = .bool bh ∧ Hid (bl = true ↔ (((False ∨ x1 * x3 = lo) ∨ x1 * x4 = lo) ∨ x2 * x3 = lo)) ∧ Hid (bh = true ↔ (((False ∨ x1 * x3 = hi) ∨ x1 * x4 = hi) ∨ x2 * x3 = hi)) ∧ IsNat wr (.slice p1 l1 K1) m1.natAbs ∧ IsNat wr (.slice p2 l2 K2) m2.natAbs ∧ IsNat wr (.slice p3 l3 K3) m3.natAbs ∧ IsNat wr (.slice p4 l4 K4) m4.natAbs ∧ IsNat wr (.slice p15 l15 K15) m15.natAbs ∧ IsNat wr (.slice p16 l16 K16) m16.natAbs ∧ St w wr [(w.heap.size, 29, [.bool b1, .slice p1 l1 K1, .int .i64 e1, .bool b2, .slice p2 l2 K2, .int .i64 e2]), (w.heap.size + 1, 29, [.bool b3, .slice p3 l3 K3, .int .i64 e3, .bool b4, .slice p4 l4 K4, .int .i64 e4]), (gs, 29, [.bool b11, .slice p11 l11 K11, .int .i64 e11, .bool b12, .slice p12 l12 K12, .int .i64 e12]), (gd, 29, [.bool b13, .slice p13 l13 K13, .int .i64 e13, .bool b14, .slice p14 l14 K14, .int .i64 e14]), (gp, 29, [.bool b15, .slice p15 l15 K15, .int .i64 e15, .bool b16, .slice p16 l16 K16, .int .i64 e16]), (gl, 27, [.bool b21, .slice p21 l21 K21, .int .i64 e21]), (gh, 27, [.bool b22, .slice p22 l22 K22, .int .i64 e22]), (gm, 27, [.bool b23, .slice p23 l23 K23, .int .i64 e23]), (gn, 27, [.bool b24, .slice p24 l24 K24, .int .i64 e24]), (ga, 27, [.bool b1, .slice p1 l1 K1, .int .i64 e1, .bool b2, .slice p2 l2 K2, .int .i64 e2]), (gx, 27, [.bool b2, .slice p2 l2 K2, .int .i64 e2]), (gb, 27, [.bool b3, .slice p3 l3 K3, .int .i64 e3, .bool b4, .slice p4 l4 K4, .int .i64 e4])]) ∨ (si = .int .i64 2 ∧ ∃ bl bh : Bool, sl = .bool bl ∧ sh = .bool bh ∧ Hid (bl = true ↔ ((((False ∨ x1 * x3 = lo) ∨ x1 * x4 = lo) ∨ x2 * x3 = lo) ∨ x2 * x4 = lo)) ∧ Hid (bh = true ↔ ((((False ∨ x1 * x3 = hi) ∨ x1 * x4 = hi) ∨ x2 * x3 = hi) ∨ x2 * x4 = hi)) ∧ IsNat wr (.slice p1 l1 K1) m1.natAbs ∧ IsNat wr (.slice p2 l2 K2) m2.natAbs ∧ IsNat wr (.slice p3 l3 K3) m3.natAbs ∧ IsNat wr (.slice p4 l4 K4) m4.natAbs ∧ IsNat wr (.slice p15 l15 K15) m15.natAbs ∧ IsNat wr (.slice p16 l16 K16) m16.natAbs ∧ St w wr [(w.heap.size, 29, [.bool b1, .slice p1 l1 K1, .int .i64 e1, .bool b2, .slice p2 l2 K2, .int .i64 e2]), (w.heap.size + 1, 29, [.bool b3, .slice p3 l3 K3, .int .i64 e3, .bool b4, .slice p4 l4 K4, .int .i64 e4]), (gs, 29, [.bool b11, .slice p11 l11 K11, .int .i64 e11, .bool b12, .slice p12 l12 K12, .int .i64 e12]), (gd, 29, [.bool b13, .slice p13 l13 K13, .int .i64 e13, .bool b14, .slice p14 l14 K14, .int .i64 e14]), (gp, 29, [.bool b15, .slice p15 l15 K15, .int .i64 e15, .bool b16, .slice p16 l16 K16, .int .i64 e16]), (gl, 27, [.bool b21, .slice p21 l21 K21, .int .i64 e21]), (gh, 27, [.bool b22, .slice p22 l22 K22, .int .i64 e22]), (gm, 27, [.bool b23, .slice p23 l23 K23, .int .i64 e23]), (gn, 27, [.bool b24, .slice p24 l24 K24, .int .i64 e24]), (ga, 27, [.bool b1, .slice p1 l1 K1, .int .i64 e1, .bool b2, .slice p2 l2 K2, .int .i64 e2]), (gx, 27, [.bool b2, .slice p2 l2 K2, .int .i64 e2]), (gb, 27, [.bool b3, .slice p3 l3 K3, .int .i64 e3, .bool b4, .slice p4 l4 K4, .int .i64 e4])])) (fun si _ _ _ => 2 - (intOf si).toNat)
        case atStart => exact .inl ⟨rfl, bl, bh, rfl, rfl, hl, hh, n1, n2, n3, n4, n15, n16, S⟩
        case round =>
          clear n1 n2 n3 n4 n15 n16 S hl hh
          rcases hrel with ⟨rfl, bl, bh, rfl, rfl, hl, hh, n1, n2, n3, n4, n15, n16, S⟩ | ⟨rfl, bl, bh, rfl, rfl, hl, hh, n1, n2, n3, n4, n15, n16, S⟩ | ⟨rfl, bl, bh, rfl, rfl, hl, hh, n1, n2, n3, n4, n15, n16, S⟩
          ·
            obtain ⟨c11_0, c11_1, c11_2, c11_3, c11_4, c11_5⟩ := S.c6 11 rfl
            have H := S.hnew 27 [.bool b3, .slice p3 l3 K3, .int .i64 e3]
            replace S := S.al 27 [.bool b3, .slice p3 l3 K3, .int .i64 e3] (wr.heap.size)
            refine iv6 H n1 n2 n3 n4 n15 n16 ?_; clear n1 n2 n3 n4 n15 n16; intro n1 n2 n3 n4 n15 n16
            clear H
            go_upto_region 23 with fail
            clear c11_0 c11_1 c11_2 c11_3 c11_4 c11_5
            generalize (wr.alloc (.cells #[.bool b3, .slice p3 l3 K3, .int .i64 e3] 27)) = w81 at S n1 n2 n3 n4 n15 n16 ⊢
            obtain ⟨c10_0, c10_1, c10_2⟩ := S.c3 10 rfl; obtain ⟨c12_0, c12_1, c12_2⟩ := S.c3 12 rfl; go_wp2_with fail; clear c10_0 c10_1 c10_2 c12_0 c12_1 c12_2
            refine (S.call (dmul_any (L := 200) (H := 520) (M := 200) (I := 520) (HT.out.below S.below) ⟨b2, p2, l2, K2, m2, e2, rfl, h2, n2, d2⟩ ⟨b3, p3, l3, K3, m3, e3, rfl, h3, n3, d3⟩ (by decide) (x2 * x3) rfl)).mono ?_
            clear S
            rintro e w82 ⟨⟨_, rfl, b31, p31, l31, K31, m31, e31, rfl, h31, n31, d31⟩, S, H⟩
            refine iv6 H n1 n2 n3 n4 n15 n16 ?_; clear n1 n2 n3 n4 n15 n16; intro n1 n2 n3 n4 n15 n16
            clear H; obtain ⟨c10_0, c10_1, c10_2⟩ := S.c3 10 rfl; obtain ⟨c12_0, c12_1, c12_2⟩ := S.c3 12 rfl
            have H := S.hnew 27 [.bool b31, .slice p31 l31 K31, .int .i64 e31]
            replace S := S.al 27 [.bool b31, .slice p31 l31 K31, .int .i64 e31] (w82.heap.size)
            refine iv7 H n1 n2 n3 n4 n15 n16 n31 ?_; clear n1 n2 n3 n4 n15 n16 n31; intro n1 n2 n3 n4 n15 n16 n31
            clear H; clear c10_0 c10_1 c10_2 c12_0 c12_1 c12_2; obtain ⟨c4_0, c4_1, c4_2, c4_3, c4_4, c4_5⟩ := S.c6 4 rfl; obtain ⟨c13_0, c13_1, c13_2⟩ := S.c3 13 rfl; go_wp2_with fail
            generalize (.tuple #[.agg #[.bool b31, .slice p31 l31 K31, .int .i64 e31], .int .i64 0] : Value) = g1
            clear c4_0 c4_1 c4_2 c4_3 c4_4 c4_5 c13_0 c13_1 c13_2
            refine (S.call (shas_any (L := 400) (H := 1041) ⟨b15, p15, l15, K15, m15, e15, b16, p16, l16, K16, m16, e16, rfl, h15, n15, d15, h16, n16, d16⟩ (IsD.mono (L := 400) (H := 1040) (L' := 400) (H' := 1041) ⟨b31, p31, l31, K31, m31, e31, rfl, h31, n31, d31⟩ (by decide) (by decide)) (by decide) true (decide_eq_true ⟨Rat.not_lt.2 HB.out.2.1.1, Rat.not_lt.2 HB.out.2.1.2⟩))).mono ?_
            clear S
            rintro e w83 ⟨rfl, S, H⟩
            refine iv7 H n1 n2 n3 n4 n15 n16 n31 ?_; clear n1 n2 n3 n4 n15 n16 n31; intro n1 n2 n3 n4 n15 n16 n31
            clear H; obtain ⟨c4_0, c4_1, c4_2, c4_3, c4_4, c4_5⟩ := S.c6 4 rfl; obtain ⟨c13_0, c13_1, c13_2⟩ := S.c3 13 rfl
            by_cases zbl : bl = true
            ·
              have Phl := Lib.hid (hl.out.1 zbl)
              clear hl
              subst zbl
              by_cases zbh : bh = true
              ·
                have Phh := Lib.hid (hh.out.1 zbh)
                clear hh
                subst zbh
                go_wp2_with fail; clear c4_0 c4_1 c4_2 c4_3 c4_4 c4_5 c13_0 c13_1 c13_2
                replace S := S.take 12 (L := [(w.heap.size, 29, [.bool b1, .slice p1 l1 K1, .int .i64 e1, .bool b2, .slice p2 l2 K2, .int .i64 e2]), (w.heap.size + 1, 29, [.bool b3, .slice p3 l3 K3, .int .i64 e3, .bool b4, .slice p4 l4 K4, .int .i64 e4]), (gs, 29, [.bool b11, .slice p11 l11 K11, .int .i64 e11, .bool b12, .slice p12 l12 K12, .int .i64 e12]), (gd, 29, [.bool b13, .slice p13 l13 K13, .int .i64 e13, .bool b14, .slice p14 l14 K14, .int .i64 e14]), (gp, 29, [.bool b15, .slice p15 l15 K15, .int .i64 e15, .bool b16, .slice p16 l16 K16, .int .i64 e16]), (gl, 27, [.bool b21, .slice p21 l21 K21, .int .i64 e21]), (gh, 27, [.bool b22, .slice p22 l22 K22, .int .i64 e22]), (gm, 27, [.bool b23, .slice p23 l23 K23, .int .i64 e23]), (gn, 27, [.bool b24, .slice p24 l24 K24, .int .i64 e24]), (ga, 27, [.bool b1, .slice p1 l1 K1, .int .i64 e1, .bool b2, .slice p2 l2 K2, .int .i64 e2]), (gx, 27, [.bool b2, .slice p2 l2 K2, .int .i64 e2]), (gb, 27, [.bool b3, .slice p3 l3 K3, .int .i64 e3, .bool b4, .slice p4 l4 K4, .int .i64 e4])]) rfl
                go_roundw
                case rel => exact .inr (.inl ⟨rfl, true, true, rfl, rfl, ⟨fun _ => .inl Phl.out, fun _ => rfl⟩, ⟨fun _ => .inl Phh.out, fun _ => rfl⟩, n1, n2, n3, n4, n15, n16, S⟩)
                case measure => simp [intOf]
              ·
                have Phh := Lib.hid (fun h => zbh (hh.out.2 h))
                obtain rfl : bh = false := by simpa using zbh
                clear hh zbh
                by_cases hq2 : x2 * x3 = hi
                ·
                  clear c4_0 c4_1 c4_2 c4_3 c4_4 c4_5 c13_0 c13_1 c13_2; obtain ⟨c4_0, c4_1, c4_2, c4_3, c4_4, c4_5⟩ := S.c6 4 rfl; obtain ⟨c13_0, c13_1, c13_2⟩ := S.c3 13 rfl; go_wp2_with fail; clear c4_0 c4_1 c4_2 c4_3 c4_4 c4_5 c13_0 c13_1 c13_2
                  refine (S.call (dcompare_any (L := 400) (H := 1041) (IsD.mono (L := 400) (H := 1040) (L' := 400) (H' := 1041) ⟨b31, p31, l31, K31, m31, e31, rfl, h31, n31, d31⟩ (by decide) (by decide)) ⟨b16, p16, l16, K16, m16, e16, rfl, h16, n16, d16⟩ (by decide) 0 (by rw [hq2]; exact cmpR_eq _))).mono ?_
                  clear S
                  rintro e w84 ⟨rfl, S, H⟩
                  refine iv7 H n1 n2 n3 n4 n15 n16 n31 ?_; clear n1 n2 n3 n4 n15 n16 n31; intro n1 n2 n3 n4 n15 n16 n31
                  clear H; obtain ⟨c4_0, c4_1, c4_2, c4_3, c4_4, c4_5⟩ := S.c6 4 rfl; obtain ⟨c13_0, c13_1, c13_2⟩ := S.c3 13 rfl; go_wp2_with fail; clear c4_0 c4_1 c4_2 c4_3 c4_4 c4_5 c13_0 c13_1 c13_2
                  replace S := S.take 12 (L := [(w.heap.size, 29, [.bool b1, .slice p1 l1 K1, .int .i64 e1, .bool b2, .slice p2 l2 K2, .int .i64 e2]), (w.heap.size + 1, 29, [.bool b3, .slice p3 l3 K3, .int .i64 e3, .bool b4, .slice p4 l4 K4, .int .i64 e4]), (gs, 29, [.bool b11, .slice p11 l11 K11, .int .i64 e11, .bool b12, .slice p12 l12 K12, .int .i64 e12]), (gd, 29, [.bool b13, .slice p13 l13 K13, .int .i64 e13, .bool b14, .slice p14 l14 K14, .int .i64 e14]), (gp, 29, [.bool b15, .slice p15 l15 K15, .int .i64 e15, .bool b16, .slice p16 l16 K16, .int .i64 e16]), (gl, 27, [.bool b21, .slice p21 l21 K21, .int .i64 e21]), (gh, 27, [.bool b22, .slice p22 l22 K22, .int .i64 e22]), (gm, 27, [.bool b23, .slice p23 l23 K23, .int .i64 e23]), (gn, 27, [.bool b24, .slice p24 l24 K24, .int .i64 e24]), (ga, 27, [.bool b1, .slice p1 l1 K1, .int .i64 e1, .bool b2, .slice p2 l2 K2, .int .i64 e2]), (gx, 27, [.bool b2, .slice p2 l2 K2, .int .i64 e2]), (gb, 27, [.bool b3, .slice p3 l3 K3, .int .i64 e3, .bool b4, .slice p4 l4 K4, .int .i64 e4])]) rfl
                  go_roundw
                  case rel => exact .inr (.inl ⟨rfl, true, true, rfl, rfl, ⟨fun _ => .inl Phl.out, fun _ => rfl⟩, ⟨fun _ => .inr hq2, fun _ => rfl⟩, n1, n2, n3, n4, n15, n16, S⟩)
                  case measure => simp [intOf]
                ·
                  obtain ⟨chq2, hchq2⟩ : ∃ c, cmpR (x2 * x3) hi = c := ⟨_, rfl⟩
                  have zhq2 : (chq2 == 0) = false := by rw [← hchq2]; exact cmpR_ne hq2
                  have HChq2 := Lib.hid hchq2
                  clear hchq2; clear c4_0 c4_1 c4_2 c4_3 c4_4 c4_5 c13_0 c13_1 c13_2; obtain ⟨c4_0, c4_1, c4_2, c4_3, c4_4, c4_5⟩ := S.c6 4 rfl; obtain ⟨c13_0, c13_1, c13_2⟩ := S.c3 13 rfl; go_wp2_with fail; clear c4_0 c4_1 c4_2 c4_3 c4_4 c4_5 c13_0 c13_1 c13_2
                  refine (S.call (dcompare_any (L := 400) (H := 1041) (IsD.mono (L := 400) (H := 1040) (L' := 400) (H' := 1041) ⟨b31, p31, l31, K31, m31, e31, rfl, h31, n31, d31⟩ (by decide) (by decide)) ⟨b16, p16, l16, K16, m16, e16, rfl, h16, n16, d16⟩ (by decide) chq2 HChq2.out)).mono ?_
                  clear S
                  rintro e w84 ⟨rfl, S, H⟩
                  refine iv7 H n1 n2 n3 n4 n15 n16 n31 ?_; clear n1 n2 n3 n4 n15 n16 n31; intro n1 n2 n3 n4 n15 n16 n31
                  clear H; obtain ⟨c4_0, c4_1, c4_2, c4_3, c4_4, c4_5⟩ := S.c6 4 rfl; obtain ⟨c13_0, c13_1, c13_2⟩ := S.c3 13 rfl; go_wp2_with fail; clear c4_0 c4_1 c4_2 c4_3 c4_4 c4_5 c13_0 c13_1 c13_2
                  replace S := S.take 12 (L := [(w.heap.size, 29, [.bool b1, .slice p1 l1 K1, .int .i64 e1, .bool b2, .slice p2 l2 K2, .int .i64 e2]), (w.heap.size + 1, 29, [.bool b3, .slice p3 l3 K3, .int .i64 e3, .bool b4, .slice p4 l4 K4, .int .i64 e4]), (gs, 29, [.bool b11, .slice p11 l11 K11, .int .i64 e11, .bool b12, .slice p12 l12 K12, .int .i64 e12]), (gd, 29, [.bool b13, .slice p13 l13 K13, .int .i64 e13, .bool b14, .slice p14 l14 K14, .int .i64 e14]), (gp, 29, [.bool b15, .slice p15 l15 K15, .int .i64 e15, .bool b16, .slice p16 l16 K16, .int .i64 e16]), (gl, 27, [.bool b21, .slice p21 l21 K21, .int .i64 e21]), (gh, 27, [.bool b22, .slice p22 l22 K22, .int .i64 e22]), (gm, 27, [.bool b23, .slice p23 l23 K23, .int .i64 e23]), (gn, 27, [.bool b24, .slice p24 l24 K24, .int .i64 e24]), (ga, 27, [.bool b1, .slice p1 l1 K1, .int .i64 e1, .bool b2, .slice p2 l2 K2, .int .i64 e2]), (gx, 27, [.bool b2, .slice p2 l2 K2, .int .i64 e2]), (gb, 27, [.bool b3, .slice p3 l3 K3, .int .i64 e3, .bool b4, .slice p4 l4 K4, .int .i64 e4])]) rfl
                  go_roundw
                  case rel => exact .inr (.inl ⟨rfl, true, false, rfl, rfl, ⟨fun _ => .inl Phl.out, fun _ => rfl⟩, ⟨fun h => (by cases h), fun h => h.elim (fun h => absurd h Phh.out) (fun h => absurd h hq2)⟩, n1, n2, n3, n4, n15, n16, S⟩)
                  case measure => simp [intOf]
            ·
              have Phl := Lib.hid (fun h => zbl (hl.out.2 h))
              obtain rfl : bl = false := by simpa using zbl
              clear hl zbl
              by_cases hq1 : x2 * x3 = lo
              ·
                clear c4_0 c4_1 c4_2 c4_3 c4_4 c4_5 c13_0 c13_1 c13_2; obtain ⟨c4_0, c4_1, c4_2, c4_3, c4_4, c4_5⟩ := S.c6 4 rfl; obtain ⟨c13_0, c13_1, c13_2⟩ := S.c3 13 rfl; go_wp2_with fail; clear c4_0 c4_1 c4_2 c4_3 c4_4 c4_5 c13_0 c13_1 c13_2
                refine (S.call (dcompare_any (L := 400) (H := 1041) (IsD.mono (L := 400) (H := 1040) (L' := 400) (H' := 1041) ⟨b31, p31, l31, K31, m31, e31, rfl, h31, n31, d31⟩ (by decide) (by decide)) ⟨b15, p15, l15, K15, m15, e15, rfl, h15, n15, d15⟩ (by decide) 0 (by rw [hq1]; exact cmpR_eq _))).mono ?_
                clear S
                rintro e w84 ⟨rfl, S, H⟩
                refine iv7 H n1 n2 n3 n4 n15 n16 n31 ?_; clear n1 n2 n3 n4 n15 n16 n31; intro n1 n2 n3 n4 n15 n16 n31
                clear H; obtain ⟨c4_0, c4_1, c4_2, c4_3, c4_4, c4_5⟩ := S.c6 4 rfl; obtain ⟨c13_0, c13_1, c13_2⟩ := S.c3 13 rfl
                by_cases zbh : bh = true
                ·
                  have Phh := Lib.hid (hh.out.1 zbh)
                  clear hh
                  subst zbh
                  go_wp2_with fail; clear c4_0 c4_1 c4_2 c4_3 c4_4 c4_5 c13_0 c13_1 c13_2
                  replace S := S.take 12 (L := [(w.heap.size, 29, [.bool b1, .slice p1 l1 K1, .int .i64 e1, .bool b2, .slice p2 l2 K2, .int .i64 e2]), (w.heap.size + 1, 29, [.bool b3, .slice p3 l3 K3, .int .i64 e3, .bool b4, .slice p4 l4 K4, .int .i64 e4]), (gs, 29, [.bool b11, .slice p11 l11 K11, .int .i64 e11, .bool b12, .slice p12 l12 K12, .int .i64 e12]), (gd, 29, [.bool b13, .slice p13 l13 K13, .int .i64 e13, .bool b14, .slice p14 l14 K14, .int .i64 e14]), (gp, 29, [.bool b15, .slice p15 l15 K15, .int .i64 e15, .bool b16, .slice p16 l16 K16, .int .i64 e16]), (gl, 27, [.bool b21, .slice p21 l21 K21, .int .i64 e21]), (gh, 27, [.bool b22, .slice p22 l22 K22, .int .i64 e22]), (gm, 27, [.bool b23, .slice p23 l23 K23, .int .i64 e23]), (gn, 27, [.bool b24, .slice p24 l24 K24, .int .i64 e24]), (ga, 27, [.bool b1, .slice p1 l1 K1, .int .i64 e1, .bool b2, .slice p2 l2 K2, .int .i64 e2]), (gx, 27, [.bool b2, .slice p2 l2 K2, .int .i64 e2]), (gb, 27, [.bool b3, .slice p3 l3 K3, .int .i64 e3, .bool b4, .slice p4 l4 K4, .int .i64 e4])]) rfl
                  go_roundw
                  case rel => exact .inr (.inl ⟨rfl, true, true, rfl, rfl, ⟨fun _ => .inr hq1, fun _ => rfl⟩, ⟨fun _ => .inl Phh.out, fun _ => rfl⟩, n1, n2, n3, n4, n15, n16, S⟩)
                  case measure => simp [intOf]
                ·
                  have Phh := Lib.hid (fun h => zbh (hh.out.2 h))
                  obtain rfl : bh = false := by simpa using zbh
                  clear hh zbh
                  by_cases hq2 : x2 * x3 = hi
                  ·
                    clear c4_0 c4_1 c4_2 c4_3 c4_4 c4_5 c13_0 c13_1 c13_2; obtain ⟨c4_0, c4_1, c4_2, c4_3, c4_4, c4_5⟩ := S.c6 4 rfl; obtain ⟨c13_0, c13_1, c13_2⟩ := S.c3 13 rfl; go_wp2_with fail; clear c4_0 c4_1 c4_2 c4_3 c4_4 c4_5 c13_0 c13_1 c13_2
                    refine (S.call (dcompare_any (L := 400) (H := 1041) (IsD.mono (L := 400) (H := 1040) (L' := 400) (H' := 1041) ⟨b31, p31, l31, K31, m31, e31, rfl, h31, n31, d31⟩ (by decide) (by decide)) ⟨b16, p16, l16, K16, m16, e16, rfl, h16, n16, d16⟩ (by decide) 0 (by rw [hq2]; exact cmpR_eq _))).mono ?_
                    clear S
                    rintro e w85 ⟨rfl, S, H⟩
                    refine iv7 H n1 n2 n3 n4 n15 n16 n31 ?_; clear n1 n2 n3 n4 n15 n16 n31; intro n1 n2 n3 n4 n15 n16 n31
                    clear H; obtain ⟨c4_0, c4_1, c4_2, c4_3, c4_4, c4_5⟩ := S.c6 4 rfl; obtain ⟨c13_0, c13_1, c13_2⟩ := S.c3 13 rfl; go_wp2_with fail; clear c4_0 c4_1 c4_2 c4_3 c4_4 c4_5 c13_0 c13_1 c13_2
                    replace S := S.take 12 (L := [(w.heap.size, 29, [.bool b1, .slice p1 l1 K1, .int .i64 e1, .bool b2, .slice p2 l2 K2, .int .i64 e2]), (w.heap.size + 1, 29, [.bool b3, .slice p3 l3 K3, .int .i64 e3, .bool b4, .slice p4 l4 K4, .int .i64 e4]), (gs, 29, [.bool b11, .slice p11 l11 K11, .int .i64 e11, .bool b12, .slice p12 l12 K12, .int .i64 e12]), (gd, 29, [.bool b13, .slice p13 l13 K13, .int .i64 e13, .bool b14, .slice p14 l14 K14, .int .i64 e14]), (gp, 29, [.bool b15, .slice p15 l15 K15, .int .i64 e15, .bool b16, .slice p16 l16 K16, .int .i64 e16]), (gl, 27, [.bool b21, .slice p21 l21 K21, .int .i64 e21]), (gh, 27, [.bool b22, .slice p22 l22 K22, .int .i64 e22]), (gm, 27, [.bool b23, .slice p23 l23 K23, .int .i64 e23]), (gn, 27, [.bool b24, .slice p24 l24 K24, .int .i64 e24]), (ga, 27, [.bool b1, .slice p1 l1 K1, .int .i64 e1, .bool b2, .slice p2 l2 K2, .int .i64 e2]), (gx, 27, [.bool b2, .slice p2 l2 K2, .int .i64 e2]), (gb, 27, [.bool b3, .slice p3 l3 K3, .int .i64 e3, .bool b4, .slice p4 l4 K4, .int .i64 e4])]) rfl
                    go_roundw
                    case rel => exact .inr (.inl ⟨rfl, true, true, rfl, rfl, ⟨fun _ => .inr hq1, fun _ => rfl⟩, ⟨fun _ => .inr hq2, fun _ => rfl⟩, n1, n2, n3, n4, n15, n16, S⟩)
                    case measure => simp [intOf]
                  ·
                    obtain ⟨chq2, hchq2⟩ : ∃ c, cmpR (x2 * x3) hi = c := ⟨_, rfl⟩
                    have zhq2 : (chq2 == 0) = false := by rw [← hchq2]; exact cmpR_ne hq2
                    have HChq2 := Lib.hid hchq2
                    clear hchq2; clear c4_0 c4_1 c4_2 c4_3 c4_4 c4_5 c13_0 c13_1 c13_2; obtain ⟨c4_0, c4_1, c4_2, c4_3, c4_4, c4_5⟩ := S.c6 4 rfl; obtain ⟨c13_0, c13_1, c13_2⟩ := S.c3 13 rfl; go_wp2_with fail; clear c4_0 c4_1 c4_2 c4_3 c4_4 c4_5 c13_0 c13_1 c13_2
                    refine (S.call (dcompare_any (L := 400) (H := 1041) (IsD.mono (L := 400) (H := 1040) (L' := 400) (H' := 1041) ⟨b31, p31, l31, K31, m31, e31, rfl, h31, n31, d31⟩ (by decide) (by decide)) ⟨b16, p16, l16, K16, m16, e16, rfl, h16, n16, d16⟩ (by decide) chq2 HChq2.out)).mono ?_
                    clear S
                    rintro e w85 ⟨rfl, S, H⟩
                    refine iv7 H n1 n2 n3 n4 n15 n16 n31 ?_; clear n1 n2 n3 n4 n15 n16 n31; intro n1 n2 n3 n4 n15 n16 n31
                    clear H; obtain ⟨c4_0, c4_1, c4_2, c4_3, c4_4, c4_5⟩ := S.c6 4 rfl; obtain ⟨c13_0, c13_1, c13_2⟩ := S.c3 13 rfl; go_wp2_with fail; clear c4_0 c4_1 c4_2 c4_3 c4_4 c4_5 c13_0 c13_1 c13_2
                    replace S := S.take 12 (L := [(w.heap.size, 29, [.bool b1, .slice p1 l1 K1, .int .i64 e1, .bool b2, .slice p2 l2 K2, .int .i64 e2]), (w.heap.size + 1, 29, [.bool b3, .slice p3 l3 K3, .int .i64 e3, .bool b4, .slice p4 l4 K4, .int .i64 e4]), (gs, 29, [.bool b11, .slice p11 l11 K11, .int .i64 e11, .bool b12, .slice p12 l12 K12, .int .i64 e12]), (gd, 29, [.bool b13, .slice p13 l13 K13, .int .i64 e13, .bool b14, .slice p14 l14 K14, .int .i64 e14]), (gp, 29, [.bool b15, .slice p15 l15 K15, .int .i64 e15, .bool b16, .slice p16 l16 K16, .int .i64 e16]), (gl, 27, [.bool b21, .slice p21 l21 K21, .int .i64 e21]), (gh, 27, [.bool b22, .slice p22 l22 K22, .int .i64 e22]), (gm, 27, [.bool b23, .slice p23 l23 K23, .int .i64 e23]), (gn, 27, [.bool b24, .slice p24 l24 K24, .int .i64 e24]), (ga, 27, [.bool b1, .slice p1 l1 K1, .int .i64 e1, .bool b2, .slice p2 l2 K2, .int .i64 e2]), (gx, 27, [.bool b2, .slice p2 l2 K2, .int .i64 e2]), (gb, 27, [.bool b3, .slice p3 l3 K3, .int .i64 e3, .bool b4, .slice p4 l4 K4, .int .i64 e4])]) rfl
                    go_roundw
                    case rel => exact .inr (.inl ⟨rfl, true, false, rfl, rfl, ⟨fun _ => .inr hq1, fun _ => rfl⟩, ⟨fun h => (by cases h), fun h => h.elim (fun h => absurd h Phh.out) (fun h => absurd h hq2)⟩, n1, n2, n3, n4, n15, n16, S⟩)
                    case measure => simp [intOf]
              ·
                obtain ⟨chq1, hchq1⟩ : ∃ c, cmpR (x2 * x3) lo = c := ⟨_, rfl⟩
                have zhq1 : (chq1 == 0) = false := by rw [← hchq1]; exact cmpR_ne hq1
                have HChq1 := Lib.hid hchq1
                clear hchq1; clear c4_0 c4_1 c4_2 c4_3 c4_4 c4_5 c13_0 c13_1 c13_2; obtain ⟨c4_0, c4_1, c4_2, c4_3, c4_4, c4_5⟩ := S.c6 4 rfl; obtain ⟨c13_0, c13_1, c13_2⟩ := S.c3 13 rfl; go_wp2_with fail; clear c4_0 c4_1 c4_2 c4_3 c4_4 c4_5 c13_0 c13_1 c13_2
                refine (S.call (dcompare_any (L := 400) (H := 1041) (IsD.mono (L := 400) (H := 1040) (L' := 400) (H' := 1041) ⟨b31, p31, l31, K31, m31, e31, rfl, h31, n31, d31⟩ (by decide) (by decide)) ⟨b15, p15, l15, K15, m15, e15, rfl, h15, n15, d15⟩ (by decide) chq1 HChq1.out)).mono ?_
                clear S
                rintro e w84 ⟨rfl, S, H⟩
                refine iv7 H n1 n2 n3 n4 n15 n16 n31 ?_; clear n1 n2 n3 n4 n15 n16 n31; intro n1 n2 n3 n4 n15 n16 n31
                clear H; obtain ⟨c4_0, c4_1, c4_2, c4_3, c4_4, c4_5⟩ := S.c6 4 rfl; obtain ⟨c13_0, c13_1, c13_2⟩ := S.c3 13 rfl
                by_cases zbh : bh = true
                ·
                  have Phh := Lib.hid (hh.out.1 zbh)
                  clear hh
                  subst zbh
                  go_wp2_with fail; clear c4_0 c4_1 c4_2 c4_3 c4_4 c4_5 c13_0 c13_1 c13_2
                  replace S := S.take 12 (L := [(w.heap.size, 29, [.bool b1, .slice p1 l1 K1, .int .i64 e1, .bool b2, .slice p2 l2 K2, .int .i64 e2]), (w.heap.size + 1, 29, [.bool b3, .slice p3 l3 K3, .int .i64 e3, .bool b4, .slice p4 l4 K4, .int .i64 e4]), (gs, 29, [.bool b11, .slice p11 l11 K11, .int .i64 e11, .bool b12, .slice p12 l12 K12, .int .i64 e12]), (gd, 29, [.bool b13, .slice p13 l13 K13, .int .i64 e13, .bool b14, .slice p14 l14 K14, .int .i64 e14]), (gp, 29, [.bool b15, .slice p15 l15 K15, .int .i64 e15, .bool b16, .slice p16 l16 K16, .int .i64 e16]), (gl, 27, [.bool b21, .slice p21 l21 K21, .int .i64 e21]), (gh, 27, [.bool b22, .slice p22 l22 K22, .int .i64 e22]), (gm, 27, [.bool b23, .slice p23 l23 K23, .int .i64 e23]), (gn, 27, [.bool b24, .slice p24 l24 K24, .int .i64 e24]), (ga, 27, [.bool b1, .slice p1 l1 K1, .int .i64 e1, .bool b2, .slice p2 l2 K2, .int .i64 e2]), (gx, 27, [.bool b2, .slice p2 l2 K2, .int .i64 e2]), (gb, 27, [.bool b3, .slice p3 l3 K3, .int .i64 e3, .bool b4, .slice p4 l4 K4, .int .i64 e4])]) rfl
                  go_roundw
                  case rel => exact .inr (.inl ⟨rfl, false, true, rfl, rfl, ⟨fun h => (by cases h), fun h => h.elim (fun h => absurd h Phl.out) (fun h => absurd h hq1)⟩, ⟨fun _ => .inl Phh.out, fun _ => rfl⟩, n1, n2, n3, n4, n15, n16, S⟩)
                  case measure => simp [intOf]
                ·
                  have Phh := Lib.hid (fun h => zbh (hh.out.2 h))
                  obtain rfl : bh = false := by simpa using zbh
                  clear hh zbh
                  by_cases hq2 : x2 * x3 = hi
                  ·
                    clear c4_0 c4_1 c4_2 c4_3 c4_4 c4_5 c13_0 c13_1 c13_2; obtain ⟨c4_0, c4_1, c4_2, c4_3, c4_4, c4_5⟩ := S.c6 4 rfl; obtain ⟨c13_0, c13_1, c13_2⟩ := S.c3 13 rfl; go_wp2_with fail; clear c4_0 c4_1 c4_2 c4_3 c4_4 c4_5 c13_0 c13_1 c13_2
                    refine (S.call (dcompare_any (L := 400) (H := 1041) (IsD.mono (L := 400) (H := 1040) (L' := 400) (H' := 1041) ⟨b31, p31, l31, K31, m31, e31, rfl, h31, n31, d31⟩ (by decide) (by decide)) ⟨b16, p16, l16, K16, m16, e16, rfl, h16, n16, d16⟩ (by decide) 0 (by rw [hq2]; exact cmpR_eq _))).mono ?_
                    clear S
                    rintro e w85 ⟨rfl, S, H⟩
                    refine iv7 H n1 n2 n3 n4 n15 n16 n31 ?_; clear n1 n2 n3 n4 n15 n16 n31; intro n1 n2 n3 n4 n15 n16 n31
                    clear H; obtain ⟨c4_0, c4_1, c4_2, c4_3, c4_4, c4_5⟩ := S.c6 4 rfl; obtain ⟨c13_0, c13_1, c13_2⟩ := S.c3 13 rfl; go_wp2_with fail; clear c4_0 c4_1 c4_2 c4_3 c4_4 c4_5 c13_0 c13_1 c13_2
                    replace S := S.take 12 (L := [(w.heap.size, 29, [.bool b1, .slice p1 l1 K1, .int .i64 e1, .bool b2, .slice p2 l2 K2, .int .i64 e2]), (w.heap.size + 1, 29, [.bool b3, .slice p3 l3 K3, .int .i64 e3, .bool b4, .slice p4 l4 K4, .int .i64 e4]), (gs, 29, [.bool b11, .slice p11 l11 K11, .int .i64 e11, .bool b12, .slice p12 l12 K12, .int .i64 e12]), (gd, 29, [.bool b13, .slice p13 l13 K13, .int .i64 e13, .bool b14, .slice p14 l14 K14, .int .i64 e14]), (gp, 29, [.bool b15, .slice p15 l15 K15, .int .i64 e15, .bool b16, .slice p16 l16 K16, .int .i64 e16]), (gl, 27, [.bool b21, .slice p21 l21 K21, .int .i64 e21]), (gh, 27, [.bool b22, .slice p22 l22 K22, .int .i64 e22]), (gm, 27, [.bool b23, .slice p23 l23 K23, .int .i64 e23]), (gn, 27, [.bool b24, .slice p24 l24 K24, .int .i64 e24]), (ga, 27, [.bool b1, .slice p1 l1 K1, .int .i64 e1, .bool b2, .slice p2 l2 K2, .int .i64 e2]), (gx, 27, [.bool b2, .slice p2 l2 K2, .int .i64 e2]), (gb, 27, [.bool b3, .slice p3 l3 K3, .int .i64 e3, .bool b4, .slice p4 l4 K4, .int .i64 e4])]) rfl
                    go_roundw
                    case rel => exact .inr (.inl ⟨rfl, false, true, rfl, rfl, ⟨fun h => (by cases h), fun h => h.elim (fun h => absurd h Phl.out) (fun h => absurd h hq1)⟩, ⟨fun _ => .inr hq2, fun _ => rfl⟩, n1, n2, n3, n4, n15, n16, S⟩)
                    case measure => simp [intOf]
                  ·
                    obtain ⟨chq2, hchq2⟩ : ∃ c, cmpR (x2 * x3) hi = c := ⟨_, rfl⟩
                    have zhq2 : (chq2 == 0) = false := by rw [← hchq2]; exact cmpR_ne hq2
                    have HChq2 := Lib.hid hchq2
                    clear hchq2; clear c4_0 c4_1 c4_2 c4_3 c4_4 c4_5 c13_0 c13_1 c13_2; obtain ⟨c4_0, c4_1, c4_2, c4_3, c4_4, c4_5⟩ := S.c6 4 rfl; obtain ⟨c13_0, c13_1, c13_2⟩ := S.c3 13 rfl; go_wp2_with fail; clear c4_0 c4_1 c4_2 c4_3 c4_4 c4_5 c13_0 c13_1 c13_2
                    refine (S.call (dcompare_any (L := 400) (H := 1041) (IsD.mono (L := 400) (H := 1040) (L' := 400) (H' := 1041) ⟨b31, p31, l31, K31, m31, e31, rfl, h31, n31, d31⟩ (by decide) (by decide)) ⟨b16, p16, l16, K16, m16, e16, rfl, h16, n16, d16⟩ (by decide) chq2 HChq2.out)).mono ?_
                    clear S
                    rintro e w85 ⟨rfl, S, H⟩
                    refine iv7 H n1 n2 n3 n4 n15 n16 n31 ?_; clear n1 n2 n3 n4 n15 n16 n31; intro n1 n2 n3 n4 n15 n16 n31
                    clear H; obtain ⟨c4_0, c4_1, c4_2, c4_3, c4_4, c4_5⟩ := S.c6 4 rfl; obtain ⟨c13_0, c13_1, c13_2⟩ := S.c3 13 rfl; go_wp2_with fail; clear c4_0 c4_1 c4_2 c4_3 c4_4 c4_5 c13_0 c13_1 c13_2
                    replace S := S.take 12 (L := [(w.heap.size, 29, [.bool b1, .slice p1 l1 K1, .int .i64 e1, .bool b2, .slice p2 l2 K2, .int .i64 e2]), (w.heap.size + 1, 29, [.bool b3, .slice p3 l3 K3, .int .i64 e3, .bool b4, .slice p4 l4 K4, .int .i64 e4]), (gs, 29, [.bool b11, .slice p11 l11 K11, .int .i64 e11, .bool b12, .slice p12 l12 K12, .int .i64 e12]), (gd, 29, [.bool b13, .slice p13 l13 K13, .int .i64 e13, .bool b14, .slice p14 l14 K14, .int .i64 e14]), (gp, 29, [.bool b15, .slice p15 l15 K15, .int .i64 e15, .bool b16, .slice p16 l16 K16, .int .i64 e16]), (gl, 27, [.bool b21, .slice p21 l21 K21, .int .i64 e21]), (gh, 27, [.bool b22, .slice p22 l22 K22, .int .i64 e22]), (gm, 27, [.bool b23, .slice p23 l23 K23, .int .i64 e23]), (gn, 27, [.bool b24, .slice p24 l24 K24, .int .i64 e24]), (ga, 27, [.bool b1, .slice p1 l1 K1, .int .i64 e1, .bool b2, .slice p2 l2 K2, .int .i64 e2]), (gx, 27, [.bool b2, .slice p2 l2 K2, .int .i64 e2]), (gb, 27, [.bool b3, .slice p3 l3 K3, .int .i64 e3, .bool b4, .slice p4 l4 K4, .int .i64 e4])]) rfl
                    go_roundw
                    case rel => exact .inr (.inl ⟨rfl, false, false, rfl, rfl, ⟨fun h => (by cases h), fun h => h.elim (fun h => absurd h Phl.out) (fun h => absurd h hq1)⟩, ⟨fun h => (by cases h), fun h => h.elim (fun h => absurd h Phh.out) (fun h => absurd h hq2)⟩, n1, n2, n3, n4, n15, n16, S⟩)
                    case measure => simp [intOf]
          ·
            obtain ⟨c11_0, c11_1, c11_2, c11_3, c11_4, c11_5⟩ := S.c6 11 rfl
            have H := S.hnew 27 [.bool b4, .slice p4 l4 K4, .int .i64 e4]
            replace S := S.al 27 [.bool b4, .slice p4 l4 K4, .int .i64 e4] (wr.heap.size)
            refine iv6 H n1 n2 n3 n4 n15 n16 ?_; clear n1 n2 n3 n4 n15 n16; intro n1 n2 n3 n4 n15 n16
            clear H
            go_upto_region 23 with fail
            clear c11_0 c11_1 c11_2 c11_3 c11_4 c11_5
            generalize (wr.alloc (.cells #[.bool b4, .slice p4 l4 K4, .int .i64 e4] 27)) = w81 at S n1 n2 n3 n4 n15 n16 ⊢
            obtain ⟨c10_0, c10_1, c10_2⟩ := S.c3 10 rfl; obtain ⟨c12_0, c12_1, c12_2⟩ := S.c3 12 rfl; go_wp2_with fail; clear c10_0 c10_1 c10_2 c12_0 c12_1 c12_2
            refine (S.call (dmul_any (L := 200) (H := 520) (M := 200) (I := 520) (HT.out.below S.below) ⟨b2, p2, l2, K2, m2, e2, rfl, h2, n2, d2⟩ ⟨b4, p4, l4, K4, m4, e4, rfl, h4, n4, d4⟩ (by decide) (x2 * x4) rfl)).mono ?_
            clear S
            rintro e w82 ⟨⟨_, rfl, b31, p31, l31, K31, m31, e31, rfl, h31, n31, d31⟩, S, H⟩
            refine iv6 H n1 n2 n3 n4 n15 n16 ?_; clear n1 n2 n3 n4 n15 n16; intro n1 n2 n3 n4 n15 n16
            clear H; obtain ⟨c10_0, c10_1, c10_2⟩ := S.c3 10 rfl; obtain ⟨c12_0, c12_1, c12_2⟩ := S.c3 12 rfl
            have H := S.hnew 27 [.bool b31, .slice p31 l31 K31, .int .i64 e31]
            replace S := S.al 27 [.bool b31, .slice p31 l31 K31, .int .i64 e31] (w82.heap.size)
            refine iv7 H n1 n2 n3 n4 n15 n16 n31 ?_; clear n1 n2 n3 n4 n15 n16 n31; intro n1 n2 n3 n4 n15 n16 n31
            clear H; clear c10_0 c10_1 c10_2 c12_0 c12_1 c12_2; obtain ⟨c4_0, c4_1, c4_2, c4_3, c4_4, c4_5⟩ := S.c6 4 rfl; obtain ⟨c13_0, c13_1, c13_2⟩ := S.c3 13 rfl; go_wp2_with fail
            generalize (.tuple #[.agg #[.bool b31, .slice p31 l31 K31, .int .i64 e31], .int .i64 0] : Value) = g1
            clear c4_0 c4_1 c4_2 c4_3 c4_4 c4_5 c13_0 c13_1 c13_2
            refine (S.call (shas_any (L := 400) (H := 1041) ⟨b15, p15, l15, K15, m15, e15, b16, p16, l16, K16, m16, e16, rfl, h15, n15, d15, h16, n16, d16⟩ (IsD.mono (L := 400) (H := 1040) (L' := 400) (H' := 1041) ⟨b31, p31, l31, K31, m31, e31, rfl, h31, n31, d31⟩ (by decide) (by decide)) (by decide) true (decide_eq_true ⟨Rat.not_lt.2 HB.out.2.2.1, Rat.not_lt.2 HB.out.2.2.2⟩))).mono ?_
            clear S
            rintro e w83 ⟨rfl, S, H⟩
            refine iv7 H n1 n2 n3 n4 n15 n16 n31 ?_; clear n1 n2 n3 n4 n15 n16 n31; intro n1 n2 n3 n4 n15 n16 n31
            clear H; obtain ⟨c4_0, c4_1, c4_2, c4_3, c4_4, c4_5⟩ := S.c6 4 rfl; obtain ⟨c13_0, c13_1, c13_2⟩ := S.c3 13 rfl
            by_cases zbl : bl = true
            ·
              have Phl := Lib.hid (hl.out.1 zbl)
              clear hl
              subst zbl
              by_cases zbh : bh = true
              ·
                have Phh := Lib.hid (hh.out.1 zbh)
                clear hh
                subst zbh
                go_wp2_with fail; clear c4_0 c4_1 c4_2 c4_3 c4_4 c4_5 c13_0 c13_1 c13_2
                replace S := S.take 12 (L := [(w.heap.size, 29, [.bool b1, .slice p1 l1 K1, .int .i64 e1, .bool b2, .slice p2 l2 K2, .int .i64 e2]), (w.heap.size + 1, 29, [.bool b3, .slice p3 l3 K3, .int .i64 e3, .bool b4, .slice p4 l4 K4, .int .i64 e4]), (gs, 29, [.bool b11, .slice p11 l11 K11, .int .i64 e11, .bool b12, .slice p12 l12 K12, .int .i64 e12]), (gd, 29, [.bool b13, .slice p13 l13 K13, .int .i64 e13, .bool b14, .slice p14 l14 K14, .int .i64 e14]), (gp, 29, [.bool b15, .slice p15 l15 K15, .int .i64 e15, .bool b16, .slice p16 l16 K16, .int .i64 e16]), (gl, 27, [.bool b21, .slice p21 l21 K21, .int .i64 e21]), (gh, 27, [.bool b22, .slice p22 l22 K22, .int .i64 e22]), (gm, 27, [.bool b23, .slice p23 l23 K23, .int .i64 e23]), (gn, 27, [.bool b24, .slice p24 l24 K24, .int .i64 e24]), (ga, 27, [.bool b1, .slice p1 l1 K1, .int .i64 e1, .bool b2, .slice p2 l2 K2, .int .i64 e2]), (gx, 27, [.bool b2, .slice p2 l2 K2, .int .i64 e2]), (gb, 27, [.bool b3, .slice p3 l3 K3, .int .i64 e3, .bool b4, .slice p4 l4 K4, .int .i64 e4])]) rfl
                go_roundw
                case rel => exact .inr (.inr ⟨rfl, true, true, rfl, rfl, ⟨fun _ => .inl Phl.out, fun _ => rfl⟩, ⟨fun _ => .inl Phh.out, fun _ => rfl⟩, n1, n2, n3, n4, n15, n16, S⟩)
                case measure => simp [intOf]
              ·
                have Phh := Lib.hid (fun h => zbh (hh.out.2 h))
                obtain rfl : bh = false := by simpa using zbh
                clear hh zbh
                by_cases hq2 : x2 * x4 = hi
                ·
                  clear c4_0 c4_1 c4_2 c4_3 c4_4 c4_5 c13_0 c13_1 c13_2; obtain ⟨c4_0, c4_1, c4_2, c4_3, c4_4, c4_5⟩ := S.c6 4 rfl; obtain ⟨c13_0, c13_1, c13_2⟩ := S.c3 13 rfl; go_wp2_with fail; clear c4_0 c4_1 c4_2 c4_3 c4_4 c4_5 c13_0 c13_1 c13_2
                  refine (S.call (dcompare_any (L := 400) (H := 1041) (IsD.mono (L := 400) (H := 1040) (L' := 400) (H' := 1041) ⟨b31, p31, l31, K31, m31, e31, rfl, h31, n31, d31⟩ (by decide) (by decide)) ⟨b16, p16, l16, K16, m16, e16, rfl, h16, n16, d16⟩ (by decide) 0 (by rw [hq2]; exact cmpR_eq _))).mono ?_
                  clear S
                  rintro e w84 ⟨rfl, S, H⟩
                  refine iv7 H n1 n2 n3 n4 n15 n16 n31 ?_; clear n1 n2 n3 n4 n15 n16 n31; intro n1 n2 n3 n4 n15 n16 n31
                  clear H; obtain ⟨c4_0, c4_1, c4_2, c4_3, c4_4, c4_5⟩ := S.c6 4 rfl; obtain ⟨c13_0, c13_1, c13_2⟩ := S.c3 13 rfl; go_wp2_with fail; clear c4_0 c4_1 c4_2 c4_3 c4_4 c4_5 c13_0 c13_1 c13_2
                  replace S := S.take 12 (L := [(w.heap.size, 29, [.bool b1, .slice p1 l1 K1, .int .i64 e1, .bool b2, .slice p2 l2 K2, .int .i64 e2]), (w.heap.size + 1, 29, [.bool b3, .slice p3 l3 K3, .int .i64 e3, .bool b4, .slice p4 l4 K4, .int .i64 e4]), (gs, 29, [.bool b11, .slice p11 l11 K11, .int .i64 e11, .bool b12, .slice p12 l12 K12, .int .i64 e12]), (gd, 29, [.bool b13, .slice p13 l13 K13, .int .i64 e13, .bool b14, .slice p14 l14 K14, .int .i64 e14]), (gp, 29, [.bool b15, .slice p15 l15 K15, .int .i64 e15, .bool b16, .slice p16 l16 K16, .int .i64 e16]), (gl, 27, [.bool b21, .slice p21 l21 K21, .int .i64 e21]), (gh, 27, [.bool b22, .slice p22 l22 K22, .int .i64 e22]), (gm, 27, [.bool b23, .slice p23 l23 K23, .int .i64 e23]), (gn, 27, [.bool b24, .slice p24 l24 K24, .int .i64 e24]), (ga, 27, [.bool b1, .slice p1 l1 K1, .int .i64 e1, .bool b2, .slice p2 l2 K2, .int .i64 e2]), (gx, 27, [.bool b2, .slice p2 l2 K2, .int .i64 e2]), (gb, 27, [.bool b3, .slice p3 l3 K3, .int .i64 e3, .bool b4, .slice p4 l4 K4, .int .i64 e4])]) rfl
                  go_roundw
                  case rel => exact .inr (.inr ⟨rfl, true, true, rfl, rfl, ⟨fun _ => .inl Phl.out, fun _ => rfl⟩, ⟨fun _ => .inr hq2, fun _ => rfl⟩, n1, n2, n3, n4, n15, n16, S⟩)
                  case measure => simp [intOf]
                ·
                  obtain ⟨chq2, hchq2⟩ : ∃ c, cmpR (x2 * x4) hi = c := ⟨_, rfl⟩
                  have zhq2 : (chq2 == 0) = false := by rw [← hchq2]; exact cmpR_ne hq2
                  have HChq2 := Lib.hid hchq2
                  clear hchq2; clear c4_0 c4_1 c4_2 c4_3 c4_4 c4_5 c13_0 c13_1 c13_2; obtain ⟨c4_0, c4_1, c4_2, c4_3, c4_4, c4_5⟩ := S.c6 4 rfl; obtain ⟨c13_0, c13_1, c13_2⟩ := S.c3 13 rfl; go_wp2_with fail; clear c4_0 c4_1 c4_2 c4_3 c4_4 c4_5 c13_0 c13_1 c13_2
                  refine (S.call (dcompare_any (L := 400) (H := 1041) (IsD.mono (L := 400) (H := 1040) (L' := 400) (H' := 1041) ⟨b31, p31, l31, K31, m31, e31, rfl, h31, n31, d31⟩ (by decide) (by decide)) ⟨b16, p16, l16, K16, m16, e16, rfl, h16, n16, d16⟩ (by decide) chq2 HChq2.out)).mono ?_
                  clear S
                  rintro e w84 ⟨rfl, S, H⟩
                  refine iv7 H n1 n2 n3 n4 n15 n16 n31 ?_; clear n1 n2 n3 n4 n15 n16 n31; intro n1 n2 n3 n4 n15 n16 n31
                  clear H; obtain ⟨c4_0, c4_1, c4_2, c4_3, c4_4, c4_5⟩ := S.c6 4 rfl; obtain ⟨c13_0, c13_1, c13_2⟩ := S.c3 13 rfl; go_wp2_with fail; clear c4_0 c4_1 c4_2 c4_3 c4_4 c4_5 c13_0 c13_1 c13_2
                  replace S := S.take 12 (L := [(w.heap.size, 29, [.bool b1, .slice p1 l1 K1, .int .i64 e1, .bool b2, .slice p2 l2 K2, .int .i64 e2]), (w.heap.size + 1, 29, [.bool b3, .slice p3 l3 K3, .int .i64 e3, .bool b4, .slice p4 l4 K4, .int .i64 e4]), (gs, 29, [.bool b11, .slice p11 l11 K11, .int .i64 e11, .bool b12, .slice p12 l12 K12, .int .i64 e12]), (gd, 29, [.bool b13, .slice p13 l13 K13, .int .i64 e13, .bool b14, .slice p14 l14 K14, .int .i64 e14]), (gp, 29, [.bool b15, .slice p15 l15 K15, .int .i64 e15, .bool b16, .slice p16 l16 K16, .int .i64 e16]), (gl, 27, [.bool b21, .slice p21 l21 K21, .int .i64 e21]), (gh, 27, [.bool b22, .slice p22 l22 K22, .int .i64 e22]), (gm, 27, [.bool b23, .slice p23 l23 K23, .int .i64 e23]), (gn, 27, [.bool b24, .slice p24 l24 K24, .int .i64 e24]), (ga, 27, [.bool b1, .slice p1 l1 K1, .int .i64 e1, .bool b2, .slice p2 l2 K2, .int .i64 e2]), (gx, 27, [.bool b2, .slice p2 l2 K2, .int .i64 e2]), (gb, 27, [.bool b3, .slice p3 l3 K3, .int .i64 e3, .bool b4, .slice p4 l4 K4, .int .i64 e4])]) rfl
                  go_roundw
                  case rel => exact .inr (.inr ⟨rfl, true, false, rfl, rfl, ⟨fun _ => .inl Phl.out, fun _ => rfl⟩, ⟨fun h => (by cases h), fun h => h.elim (fun h => absurd h Phh.out) (fun h => absurd h hq2)⟩, n1, n2, n3, n4, n15, n16, S⟩)
                  case measure => simp [intOf]
            ·
              have Phl := Lib.hid (fun h => zbl (hl.out.2 h))
              obtain rfl : bl = false := by simpa using zbl
              clear hl zbl
              by_cases hq1 : x2 * x4 = lo
              ·
                clear c4_0 c4_1 c4_2 c4_3 c4_4 c4_5 c13_0 c13_1 c13_2; obtain ⟨c4_0, c4_1, c4_2, c4_3, c4_4, c4_5⟩ := S.c6 4 rfl; obtain ⟨c13_0, c13_1, c13_2⟩ := S.c3 13 rfl; go_wp2_with fail; clear c4_0 c4_1 c4_2 c4_3 c4_4 c4_5 c13_0 c13_1 c13_2
                refine (S.call (dcompare_any (L := 400) (H := 1041) (IsD.mono (L := 400) (H := 1040) (L' := 400) (H' := 1041) ⟨b31, p31, l31, K31, m31, e31, rfl, h31, n31, d31⟩ (by decide) (by decide)) ⟨b15, p15, l15, K15, m15, e15, rfl, h15, n15, d15⟩ (by decide) 0 (by rw [hq1]; exact cmpR_eq _))).mono ?_
                clear S
                rintro e w84 ⟨rfl, S, H⟩
                refine iv7 H n1 n2 n3 n4 n15 n16 n31 ?_; clear n1 n2 n3 n4 n15 n16 n31; intro n1 n2 n3 n4 n15 n16 n31
                clear H; obtain ⟨c4_0, c4_1, c4_2, c4_3, c4_4, c4_5⟩ := S.c6 4 rfl; obtain ⟨c13_0, c13_1, c13_2⟩ := S.c3 13 rfl
                by_cases zbh : bh = true
                ·
                  have Phh := Lib.hid (hh.out.1 zbh)
                  clear hh
                  subst zbh
                  go_wp2_with fail; clear c4_0 c4_1 c4_2 c4_3 c4_4 c4_5 c13_0 c13_1 c13_2
                  replace S := S.take 12 (L := [(w.heap.size, 29, [.bool b1, .slice p1 l1 K1, .int .i64 e1, .bool b2, .slice p2 l2 K2, .int .i64 e2]), (w.heap.size + 1, 29, [.bool b3, .slice p3 l3 K3, .int .i64 e3, .bool b4, .slice p4 l4 K4, .int .i64 e4]), (gs, 29, [.bool b11, .slice p11 l11 K11, .int .i64 e11, .bool b12, .slice p12 l12 K12, .int .i64 e12]), (gd, 29, [.bool b13, .slice p13 l13 K13, .int .i64 e13, .bool b14, .slice p14 l14 K14, .int .i64 e14]), (gp, 29, [.bool b15, .slice p15 l15 K15, .int .i64 e15, .bool b16, .slice p16 l16 K16, .int .i64 e16]), (gl, 27, [.bool b21, .slice p21 l21 K21, .int .i64 e21]), (gh, 27, [.bool b22, .slice p22 l22 K22, .int .i64 e22]), (gm, 27, [.bool b23, .slice p23 l23 K23, .int .i64 e23]), (gn, 27, [.bool b24, .slice p24 l24 K24, .int .i64 e24]), (ga, 27, [.bool b1, .slice p1 l1 K1, .int .i64 e1, .bool b2, .slice p2 l2 K2, .int .i64 e2]), (gx, 27, [.bool b2, .slice p2 l2 K2, .int .i64 e2]), (gb, 27, [.bool b3, .slice p3 l3 K3, .int .i64 e3, .bool b4, .slice p4 l4 K4, .int .i64 e4])]) rfl
                  go_roundw
                  case rel => exact .inr (.inr ⟨rfl, true, true, rfl, rfl, ⟨fun _ => .inr hq1, fun _ => rfl⟩, ⟨fun _ => .inl Phh.out, fun _ => rfl⟩, n1, n2, n3, n4, n15, n16, S⟩)
                  case measure => simp [intOf]
                ·
                  have Phh := Lib.hid (fun h => zbh (hh.out.2 h))
                  obtain rfl : bh = false := by simpa using zbh
                  clear hh zbh
                  by_cases hq2 : x2 * x4 = hi
                  ·
                    clear c4_0 c4_1 c4_2 c4_3 c4_4 c4_5 c13_0 c13_1 c13_2; obtain ⟨c4_0, c4_1, c4_2, c4_3, c4_4, c4_5⟩ := S.c6 4 rfl; obtain ⟨c13_0, c13_1, c13_2⟩ := S.c3 13 rfl; go_wp2_with fail; clear c4_0 c4_1 c4_2 c4_3 c4_4 c4_5 c13_0 c13_1 c13_2
                    refine (S.call (dcompare_any (L := 400) (H := 1041) (IsD.mono (L := 400) (H := 1040) (L' := 400) (H' := 1041) ⟨b31, p31, l31, K31, m31, e31, rfl, h31, n31, d31⟩ (by decide) (by decide)) ⟨b16, p16, l16, K16, m16, e16, rfl, h16, n16, d16⟩ (by decide) 0 (by rw [hq2]; exact cmpR_eq _))).mono ?_
                    clear S
                    rintro e w85 ⟨rfl, S, H⟩
                    refine iv7 H n1 n2 n3 n4 n15 n16 n31 ?_; clear n1 n2 n3 n4 n15 n16 n31; intro n1 n2 n3 n4 n15 n16 n31
                    clear H; obtain ⟨c4_0, c4_1, c4_2, c4_3, c4_4, c4_5⟩ := S.c6 4 rfl; obtain ⟨c13_0, c13_1, c13_2⟩ := S.c3 13 rfl; go_wp2_with fail; clear c4_0 c4_1 c4_2 c4_3 c4_4 c4_5 c13_0 c13_1 c13_2
                    replace S := S.take 12 (L := [(w.heap.size, 29, [.bool b1, .slice p1 l1 K1, .int .i64 e1, .bool b2, .slice p2 l2 K2, .int .i64 e2]), (w.heap.size + 1, 29, [.bool b3, .slice p3 l3 K3, .int .i64 e3, .bool b4, .slice p4 l4 K4, .int .i64 e4]), (gs, 29, [.bool b11, .slice p11 l11 K11, .int .i64 e11, .bool b12, .slice p12 l12 K12, .int .i64 e12]), (gd, 29, [.bool b13, .slice p13 l13 K13, .int .i64 e13, .bool b14, .slice p14 l14 K14, .int .i64 e14]), (gp, 29, [.bool b15, .slice p15 l15 K15, .int .i64 e15, .bool b16, .slice p16 l16 K16, .int .i64 e16]), (gl, 27, [.bool b21, .slice p21 l21 K21, .int .i64 e21]), (gh, 27, [.bool b22, .slice p22 l22 K22, .int .i64 e22]), (gm, 27, [.bool b23, .slice p23 l23 K23, .int .i64 e23]), (gn, 27, [.bool b24, .slice p24 l24 K24, .int .i64 e24]), (ga, 27, [.bool b1, .slice p1 l1 K1, .int .i64 e1, .bool b2, .slice p2 l2 K2, .int .i64 e2]), (gx, 27, [.bool b2, .slice p2 l2 K2, .int .i64 e2]), (gb, 27, [.bool b3, .slice p3 l3 K3, .int .i64 e3, .bool b4, .slice p4 l4 K4, .int .i64 e4])]) rfl
                    go_roundw
                    case rel => exact .inr (.inr ⟨rfl, true, true, rfl, rfl, ⟨fun _ => .inr hq1, fun _ => rfl⟩, ⟨fun _ => .inr hq2, fun _ => rfl⟩, n1, n2, n3, n4, n15, n16, S⟩)
                    case measure => simp [intOf]
                  ·
                    obtain ⟨chq2, hchq2⟩ : ∃ c, cmpR (x2 * x4) hi = c := ⟨_, rfl⟩
                    have zhq2 : (chq2 == 0) = false := by rw [← hchq2]; exact cmpR_ne hq2
                    have HChq2 := Lib.hid hchq2
                    clear hchq2; clear c4_0 c4_1 c4_2 c4_3 c4_4 c4_5 c13_0 c13_1 c13_2; obtain ⟨c4_0, c4_1, c4_2, c4_3, c4_4, c4_5⟩ := S.c6 4 rfl; obtain ⟨c13_0, c13_1, c13_2⟩ := S.c3 13 rfl; go_wp2_with fail; clear c4_0 c4_1 c4_2 c4_3 c4_4 c4_5 c13_0 c13_1 c13_2
                    refine (S.call (dcompare_any (L := 400) (H := 1041) (IsD.mono (L := 400) (H := 1040) (L' := 400) (H' := 1041) ⟨b31, p31, l31, K31, m31, e31, rfl, h31, n31, d31⟩ (by decide) (by decide)) ⟨b16, p16, l16, K16, m16, e16, rfl, h16, n16, d16⟩ (by decide) chq2 HChq2.out)).mono ?_
                    clear S
                    rintro e w85 ⟨rfl, S, H⟩
                    refine iv7 H n1 n2 n3 n4 n15 n16 n31 ?_; clear n1 n2 n3 n4 n15 n16 n31; intro n1 n2 n3 n4 n15 n16 n31
                    clear H; obtain ⟨c4_0, c4_1, c4_2, c4_3, c4_4, c4_5⟩ := S.c6 4 rfl; obtain ⟨c13_0, c13_1, c13_2⟩ := S.c3 13 rfl; go_wp2_with fail; clear c4_0 c4_1 c4_2 c4_3 c4_4 c4_5 c13_0 c13_1 c13_2
                    replace S := S.take 12 (L := [(w.heap.size, 29, [.bool b1, .slice p1 l1 K1, .int .i64 e1, .bool b2, .slice p2 l2 K2, .int .i64 e2]), (w.heap.size + 1, 29, [.bool b3, .slice p3 l3 K3, .int .i64 e3, .bool b4, .slice p4 l4 K4, .int .i64 e4]), (gs, 29, [.bool b11, .slice p11 l11 K11, .int .i64 e11, .bool b12, .slice p12 l12 K12, .int .i64 e12]), (gd, 29, [.bool b13, .slice p13 l13 K13, .int .i64 e13, .bool b14, .slice p14 l14 K14, .int .i64 e14]), (gp, 29, [.bool b15, .slice p15 l15 K15, .int .i64 e15, .bool b16, .slice p16 l16 K16, .int .i64 e16]), (gl, 27, [.bool b21, .slice p21 l21 K21, .int .i64 e21]), (gh, 27, [.bool b22, .slice p22 l22 K22, .int .i64 e22]), (gm, 27, [.bool b23, .slice p23 l23 K23, .int .i64 e23]), (gn, 27, [.bool b24, .slice p24 l24 K24, .int .i64 e24]), (ga, 27, [.bool b1, .slice p1 l1 K1, .int .i64 e1, .bool b2, .slice p2 l2 K2, .int .i64 e2]), (gx, 27, [.bool b2, .slice p2 l2 K2, .int .i64 e2]), (gb, 27, [.bool b3, .slice p3 l3 K3, .int .i64 e3, .bool b4, .slice p4 l4 K4, .int .i64 e4])]) rfl
                    go_roundw
                    case rel => exact .inr (.inr ⟨rfl, true, false, rfl, rfl, ⟨fun _ => .inr hq1, fun _ => rfl⟩, ⟨fun h => (by cases h), fun h => h.elim (fun h => absurd h Phh.out) (fun h => absurd h hq2)⟩, n1, n2, n3, n4, n15, n16, S⟩)
                    case measure => simp [intOf]
              ·
                obtain ⟨chq1, hchq1⟩ : ∃ c, cmpR (x2 * x4) lo = c := ⟨_, rfl⟩
                have zhq1 : (chq1 == 0) = false := by rw [← hchq1]; exact cmpR_ne hq1
                have HChq1 := Lib.hid hchq1
                clear hchq1; clear c4_0 c4_1 c4_2 c4_3 c4_4 c4_5 c13_0 c13_1 c13_2; obtain ⟨c4_0, c4_1, c4_2, c4_3, c4_4, c4_5⟩ := S.c6 4 rfl; obtain ⟨c13_0, c13_1, c13_2⟩ := S.c3 13 rfl; go_wp2_with fail; clear c4_0 c4_1 c4_2 c4_3 c4_4 c4_5 c13_0 c13_1 c13_2
                refine (S.call (dcompare_any (L := 400) (H := 1041) (IsD.mono (L := 400) (H := 1040) (L' := 400) (H' := 1041) ⟨b31, p31, l31, K31, m31, e31, rfl, h31, n31, d31⟩ (by decide) (by decide)) ⟨b15, p15, l15, K15, m15, e15, rfl, h15, n15, d15⟩ (by decide) chq1 HChq1.out)).mono ?_
                clear S
                rintro e w84 ⟨rfl, S, H⟩
                refine iv7 H n1 n2 n3 n4 n15 n16 n31 ?_; clear n1 n2 n3 n4 n15 n16 n31; intro n1 n2 n3 n4 n15 n16 n31
                clear H; obtain ⟨c4_0, c4_1, c4_2, c4_3, c4_4, c4_5⟩ := S.c6 4 rfl; obtain ⟨c13_0, c13_1, c13_2⟩ := S.c3 13 rfl
                by_cases zbh : bh = true
                ·
                  have Phh := Lib.hid (hh.out.1 zbh)
                  clear hh
                  subst zbh
                  go_wp2_with fail; clear c4_0 c4_1 c4_2 c4_3 c4_4 c4_5 c13_0 c13_1 c13_2
                  replace S := S.take 12 (L := [(w.heap.size, 29, [.bool b1, .slice p1 l1 K1, .int .i64 e1, .bool b2, .slice p2 l2 K2, .int .i64 e2]), (w.heap.size + 1, 29, [.bool b3, .slice p3 l3 K3, .int .i64 e3, .bool b4, .slice p4 l4 K4, .int .i64 e4]), (gs, 29, [.bool b11, .slice p11 l11 K11, .int .i64 e11, .bool b12, .slice p12 l12 K12, .int .i64 e12]), (gd, 29, [.bool b13, .slice p13 l13 K13, .int .i64 e13, .bool b14, .slice p14 l14 K14, .int .i64 e14]), (gp, 29, [.bool b15, .slice p15 l15 K15, .int .i64 e15, .bool b16, .slice p16 l16 K16, .int .i64 e16]), (gl, 27, [.bool b21, .slice p21 l21 K21, .int .i64 e21]), (gh, 27, [.bool b22, .slice p22 l22 K22, .int .i64 e22]), (gm, 27, [.bool b23, .slice p23 l23 K23, .int .i64 e23]), (gn, 27, [.bool b24, .slice p24 l24 K24, .int .i64 e24]), (ga, 27, [.bool b1, .slice p1 l1 K1, .int .i64 e1, .bool b2, .slice p2 l2 K2, .int .i64 e2]), (gx, 27, [.bool b2, .slice p2 l2 K2, .int .i64 e2]), (gb, 27, [.bool b3, .slice p3 l3 K3, .int .i64 e3, .bool b4, .slice p4 l4 K4, .int .i64 e4])]) rfl
                  go_roundw
                  case rel => exact .inr (.inr ⟨rfl, false, true, rfl, rfl, ⟨fun h => (by cases h), fun h => h.elim (fun h => absurd h Phl.out) (fun h => absurd h hq1)⟩, ⟨fun _ => .inl Phh.out, fun _ => rfl⟩, n1, n2, n3, n4, n15, n16, S⟩)
                  case measure => simp [intOf]
                ·
                  have Phh := Lib.hid (fun h => zbh (hh.out.2 h))
                  obtain rfl : bh = false := by simpa using zbh
                  clear hh zbh
                  by_cases hq2 : x2 * x4 = hi
                  ·
                    clear c4_0 c4_1 c4_2 c4_3 c4_4 c4_5 c13_0 c13_1 c13_2; obtain ⟨c4_0, c4_1, c4_2, c4_3, c4_4, c4_5⟩ := S.c6 4 rfl; obtain ⟨c13_0, c13_1, c13_2⟩ := S.c3 13 rfl; go_wp2_with fail; clear c4_0 c4_1 c4_2 c4_3 c4_4 c4_5 c13_0 c13_1 c13_2
                    refine (S.call (dcompare_any (L := 400) (H := 1041) (IsD.mono (L := 400) (H := 1040) (L' := 400) (H' := 1041) ⟨b31, p31, l31, K31, m31, e31, rfl, h31, n31, d31⟩ (by decide) (by decide)) ⟨b16, p16, l16, K16, m16, e16, rfl, h16, n16, d16⟩ (by decide) 0 (by rw [hq2]; exact cmpR_eq _))).mono ?_
                    clear S
                    rintro e w85 ⟨rfl, S, H⟩
                    refine iv7 H n1 n2 n3 n4 n15 n16 n31 ?_; clear n1 n2 n3 n4 n15 n16 n31; intro n1 n2 n3 n4 n15 n16 n31
                    clear H; obtain ⟨c4_0, c4_1, c4_2, c4_3, c4_4, c4_5⟩ := S.c6 4 rfl; obtain ⟨c13_0, c13_1, c13_2⟩ := S.c3 13 rfl; go_wp2_with fail; clear c4_0 c4_1 c4_2 c4_3 c4_4 c4_5 c13_0 c13_1 c13_2
                    replace S := S.take 12 (L := [(w.heap.size, 29, [.bool b1, .slice p1 l1 K1, .int .i64 e1, .bool b2, .slice p2 l2 K2, .int .i64 e2]), (w.heap.size + 1, 29, [.bool b3, .slice p3 l3 K3, .int .i64 e3, .bool b4, .slice p4 l4 K4, .int .i64 e4]), (gs, 29, [.bool b11, .slice p11 l11 K11, .int .i64 e11, .bool b12, .slice p12 l12 K12, .int .i64 e12]), (gd, 29, [.bool b13, .slice p13 l13 K13, .int .i64 e13, .bool b14, .slice p14 l14 K14, .int .i64 e14]), (gp, 29, [.bool b15, .slice p15 l15 K15, .int .i64 e15, .bool b16, .slice p16 l16 K16, .int .i64 e16]), (gl, 27, [.bool b21, .slice p21 l21 K21, .int .i64 e21]), (gh, 27, [.bool b22, .slice p22 l22 K22, .int .i64 e22]), (gm, 27, [.bool b23, .slice p23 l23 K23, .int .i64 e23]), (gn, 27, [.bool b24, .slice p24 l24 K24, .int .i64 e24]), (ga, 27, [.bool b1, .slice p1 l1 K1, .int .i64 e1, .bool b2, .slice p2 l2 K2, .int .i64 e2]), (gx, 27, [.bool b2, .slice p2 l2 K2, .int .i64 e2]), (gb, 27, [.bool b3, .slice p3 l3 K3, .int .i64 e3, .bool b4, .slice p4 l4 K4, .int .i64 e4])]) rfl
                    go_roundw
                    case rel => exact .inr (.inr ⟨rfl, false, true, rfl, rfl, ⟨fun h => (by cases h), fun h => h.elim (fun h => absurd h Phl.out) (fun h => absurd h hq1)⟩, ⟨fun _ => .inr hq2, fun _ => rfl⟩, n1, n2, n3, n4, n15, n16, S⟩)
                    case measure => simp [intOf]
                  ·
                    obtain ⟨chq2, hchq2⟩ : ∃ c, cmpR (x2 * x4) hi = c := ⟨_, rfl⟩
                    have zhq2 : (chq2 == 0) = false := by rw [← hchq2]; exact cmpR_ne hq2
                    have HChq2 := Lib.hid hchq2
                    clear hchq2; clear c4_0 c4_1 c4_2 c4_3 c4_4 c4_5 c13_0 c13_1 c13_2; obtain ⟨c4_0, c4_1, c4_2, c4_3, c4_4, c4_5⟩ := S.c6 4 rfl; obtain ⟨c13_0, c13_1, c13_2⟩ := S.c3 13 rfl; go_wp2_with fail; clear c4_0 c4_1 c4_2 c4_3 c4_4 c4_5 c13_0 c13_1 c13_2
                    refine (S.call (dcompare_any (L := 400) (H := 1041) (IsD.mono (L := 400) (H := 1040) (L' := 400) (H' := 1041) ⟨b31, p31, l31, K31, m31, e31, rfl, h31, n31, d31⟩ (by decide) (by decide)) ⟨b16, p16, l16, K16, m16, e16, rfl, h16, n16, d16⟩ (by decide) chq2 HChq2.out)).mono ?_
                    clear S
                    rintro e w85 ⟨rfl, S, H⟩
                    refine iv7 H n1 n2 n3 n4 n15 n16 n31 ?_; clear n1 n2 n3 n4 n15 n16 n31; intro n1 n2 n3 n4 n15 n16 n31
                    clear H; obtain ⟨c4_0, c4_1, c4_2, c4_3, c4_4, c4_5⟩ := S.c6 4 rfl; obtain ⟨c13_0, c13_1, c13_2⟩ := S.c3 13 rfl; go_wp2_with fail; clear c4_0 c4_1 c4_2 c4_3 c4_4 c4_5 c13_0 c13_1 c13_2
                    replace S := S.take 12 (L := [(w.heap.size, 29, [.bool b1, .slice p1 l1 K1, .int .i64 e1, .bool b2, .slice p2 l2 K2, .int .i64 e2]), (w.heap.size + 1, 29, [.bool b3, .slice p3 l3 K3, .int .i64 e3, .bool b4, .slice p4 l4 K4, .int .i64 e4]), (gs, 29, [.bool b11, .slice p11 l11 K11, .int .i64 e11, .bool b12, .slice p12 l12 K12, .int .i64 e12]), (gd, 29, [.bool b13, .slice p13 l13 K13, .int .i64 e13, .bool b14, .slice p14 l14 K14, .int .i64 e14]), (gp, 29, [.bool b15, .slice p15 l15 K15, .int .i64 e15, .bool b16, .slice p16 l16 K16, .int .i64 e16]), (gl, 27, [.bool b21, .slice p21 l21 K21, .int .i64 e21]), (gh, 27, [.bool b22, .slice p22 l22 K22, .int .i64 e22]), (gm, 27, [.bool b23, .slice p23 l23 K23, .int .i64 e23]), (gn, 27, [.bool b24, .slice p24 l24 K24, .int .i64 e24]), (ga, 27, [.bool b1, .slice p1 l1 K1, .int .i64 e1, .bool b2, .slice p2 l2 K2, .int .i64 e2]), (gx, 27, [.bool b2, .slice p2 l2 K2, .int .i64 e2]), (gb, 27, [.bool b3, .slice p3 l3 K3, .int .i64 e3, .bool b4, .slice p4 l4 K4, .int .i64 e4])]) rfl
                    go_roundw
                    case rel => exact .inr (.inr ⟨rfl, false, false, rfl, rfl, ⟨fun h => (by cases h), fun h => h.elim (fun h => absurd h Phl.out) (fun h => absurd h hq1)⟩, ⟨fun h => (by cases h), fun h => h.elim (fun h => absurd h Phh.out) (fun h => absurd h hq2)⟩, n1, n2, n3, n4, n15, n16, S⟩)
                    case measure => simp [intOf]
          ·
            go_wp2_with fail
            replace S := S.take 10 (L := [(w.heap.size, 29, [.bool b1, .slice p1 l1 K1, .int .i64 e1, .bool b2, .slice p2 l2 K2, .int .i64 e2]), (w.heap.size + 1, 29, [.bool b3, .slice p3 l3 K3, .int .i64 e3, .bool b4, .slice p4 l4 K4, .int .i64 e4]), (gs, 29, [.bool b11, .slice p11 l11 K11, .int .i64 e11, .bool b12, .slice p12 l12 K12, .int .i64 e12]), (gd, 29, [.bool b13, .slice p13 l13 K13, .int .i64 e13, .bool b14, .slice p14 l14 K14, .int .i64 e14]), (gp, 29, [.bool b15, .slice p15 l15 K15, .int .i64 e15, .bool b16, .slice p16 l16 K16, .int .i64 e16]), (gl, 27, [.bool b21, .slice p21 l21 K21, .int .i64 e21]), (gh, 27, [.bool b22, .slice p22 l22 K22, .int .i64 e22]), (gm, 27, [.bool b23, .slice p23 l23 K23, .int .i64 e23]), (gn, 27, [.bool b24, .slice p24 l24 K24, .int .i64 e24]), (ga, 27, [.bool b1, .slice p1 l1 K1, .int .i64 e1, .bool b2, .slice p2 l2 K2, .int .i64 e2])]) rfl
            go_roundw
            case rel => exact .inr (.inr ⟨rfl, bl, bh, rfl, rfl, hl, hh, n1, n2, n3, n4, n15, n16, S⟩)
            case measure => simp [intOf]
      ·
        obtain rfl : bl = true := hl.out.2 (by
          have h := loM_or x1 x2 x3 x4
          rw [HP.out.1] at h
          rcases h with h | h | h | h
          · exact .inl (.inl (.inl (.inr h.symm)))
          · exact .inl (.inl (.inr h.symm))
          · exact .inl (.inr h.symm)
          · exact .inr h.symm)
        obtain rfl : bh = true := hh.out.2 (by
          have h := hiM_or x1 x2 x3 x4
          rw [HP.out.2] at h
          rcases h with h | h | h | h
          · exact .inl (.inl (.inl (.inr h.symm)))
          · exact .inl (.inl (.inr h.symm))
          · exact .inl (.inr h.symm)
          · exact .inr h.symm)
        go_wp2_with fail
        exact bodyPost_ret (v := .bool true) (by simp [results, Tryz.f4, go_sem]) rfl (⟨rfl, S.below⟩)
end Go.Proofs.YtcdmojefheipoaaGreatDoor
