/-
  What the statement stands on.
-/
import Derived.Test.YtcdmojefheipoaaGreatDoorM39
import Derived.Test.YtcdmojefheipoaaGreatDoorM41
namespace Go.Proofs.YtcdmojefheipoaaGreatDoor
open Go.RowKit
theorem hold2 {a b c d : Rat} (h : a ≤ c) (g : d ≤ b) : decide (¬ c < a ∧ ¬ b < d) = true := decide_eq_true ⟨Rat.not_lt.2 h, Rat.not_lt.2 g⟩
theorem nests_all {x y m u v : Rat} (Dx : DyX x) (Dy : DyX y) (Dm : DyX m) (Du : DyX u) (Dv : DyX v) (h1 : x ≤ m) (h2 : m ≤ y) (h3 : u ≤ x) (h4 : y ≤ v) {n : Nat} (hn : 2 ≤ n) :
    ((rq (x + x) n false ≤ rq (m + x) n false ∧ rq (m + y) n true ≤ rq (y + y) n true) ∧ (rq (u + u) n false ≤ rq (x + x) n false ∧ rq (y + y) n true ≤ rq (v + v) n true)) ∧
    ((rq (x + -y) n false ≤ rq (m + -y) n false ∧ rq (m + -x) n true ≤ rq (y + -x) n true) ∧ (rq (u + -v) n false ≤ rq (x + -y) n false ∧ rq (y + -x) n true ≤ rq (v + -u) n true)) ∧
    ((rq (loM x y x y) n false ≤ rq (loM m m x y) n false ∧ rq (hiM m m x y) n true ≤ rq (hiM x y x y) n true) ∧ (rq (loM u v u v) n false ≤ rq (loM x y x y) n false ∧ rq (hiM x y x y) n true ≤ rq (hiM u v u v) n true)) := by
  have hxy := Rat.le_trans h1 h2
  have M1 := mul_nest h1 (Rat.le_refl (a := m)) h2 (Rat.le_refl (a := x)) hxy (Rat.le_refl (a := y))
  have M2 := mul_nest h3 hxy h4 h3 hxy h4
  refine ⟨⟨⟨?_, ?_⟩, ?_, ?_⟩, ⟨⟨?_, ?_⟩, ?_, ?_⟩, ⟨?_, ?_⟩, ?_, ?_⟩
  · exact rq_mono (Dx.add Dx) (Dm.add Dx) (by grind) hn false
  · exact rq_mono (Dm.add Dy) (Dy.add Dy) (by grind) hn true
  · exact rq_mono (Du.add Du) (Dx.add Dx) (by grind) hn false
  · exact rq_mono (Dy.add Dy) (Dv.add Dv) (by grind) hn true
  · exact rq_mono (Dx.add Dy.neg) (Dm.add Dy.neg) (by grind) hn false
  · exact rq_mono (Dm.add Dx.neg) (Dy.add Dx.neg) (by grind) hn true
  · exact rq_mono (Du.add Dv.neg) (Dx.add Dy.neg) (by grind) hn false
  · exact rq_mono (Dy.add Dx.neg) (Dv.add Du.neg) (by grind) hn true
  · exact rq_mono (loM_dyx Dx Dy Dx Dy) (loM_dyx Dm Dm Dx Dy) M1.1 hn false
  · exact rq_mono (hiM_dyx Dm Dm Dx Dy) (hiM_dyx Dx Dy Dx Dy) M1.2 hn true
  · exact rq_mono (loM_dyx Du Dv Du Dv) (loM_dyx Dx Dy Dx Dy) M2.1 hn false
  · exact rq_mono (hiM_dyx Dx Dy Dx Dy) (hiM_dyx Du Dv Du Dv) M2.2 hn true
theorem min2_dyx {x y : Rat} (h : DyX x) (g : DyX y) : DyX (min2 x y) := by rcases min2_or x y with e | e <;> rw [e] <;> assumption
theorem max2_dyx {x y : Rat} (h : DyX x) (g : DyX y) : DyX (max2 x y) := by rcases max2_or x y with e | e <;> rw [e] <;> assumption
set_option maxRecDepth 100000 in
set_option maxHeartbeats 16000000 in
theorem spanNests_any (b1 : Bool) (p1 : Option Addr) (K1 : Nat) (ds1 : List Nat) (e1 : Int) (b2 : Bool) (p2 : Option Addr) (K2 : Nat) (ds2 : List Nat) (e2 : Int) (b3 : Bool) (p3 : Option Addr) (K3 : Nat) (ds3 : List Nat) (e3 : Int) (b4 : Bool) (p4 : Option Addr) (K4 : Nat) (ds4 : List Nat) (e4 : Int) (y1 : Int) (w : World) (hT : Tab w) (at1 : At .u32 w p1 K1 ds1) (dd1 : Dig 4294967296 ds1) (at2 : At .u32 w p2 K2 ds2) (dd2 : Dig 4294967296 ds2) (at3 : At .u32 w p3 K3 ds3) (dd3 : Dig 4294967296 ds3) (at4 : At .u32 w p4 K4 ds4) (dd4 : Dig 4294967296 ds4) (hy0 : -9223372036854775808 ≤ y1) (hy1 : y1 ≤ 9223372036854775807) :
    Calls Tryz.prog 8 #[.agg #[.bool b1, .slice p1 ds1.length K1, .int .i64 e1, .bool b2, .slice p2 ds2.length K2, .int .i64 e2], .agg #[.bool b3, .slice p3 ds3.length K3, .int .i64 e3, .bool b4, .slice p4 ds4.length K4, .int .i64 e4], .int .i64 y1] w fun e w' => e = .returned (.bool true) ∧ Below w.heap.size w w' := by
  have HT := Lib.hid hT
  have HD1 := Lib.hid dd1
  obtain ⟨l1, hl1⟩ : ∃ l, ds1.length = l := ⟨_, rfl⟩
  have HL1 := Lib.hid hl1
  rw [hl1]
  have HD2 := Lib.hid dd2
  obtain ⟨l2, hl2⟩ : ∃ l, ds2.length = l := ⟨_, rfl⟩
  have HL2 := Lib.hid hl2
  rw [hl2]
  have HD3 := Lib.hid dd3
  obtain ⟨l3, hl3⟩ : ∃ l, ds3.length = l := ⟨_, rfl⟩
  have HL3 := Lib.hid hl3
  rw [hl3]
  have HD4 := Lib.hid dd4
  obtain ⟨l4, hl4⟩ : ∃ l, ds4.length = l := ⟨_, rfl⟩
  have HL4 := Lib.hid hl4
  rw [hl4]
  clear hT dd1 hl1 dd2 hl2 dd3 hl3 dd4 hl4
  have S := ((St.start w).alloc 29 [.bool b1, .slice p1 l1 K1, .int .i64 e1, .bool b2, .slice p2 l2 K2, .int .i64 e2] (w.heap.size)).alloc 29 [.bool b3, .slice p3 l3 K3, .int .i64 e3, .bool b4, .slice p4 l4 K4, .int .i64 e4] (w.heap.size + 1)
  try simp only [List.cons_append, List.nil_append] at S
  refine iv4 S.hold at1 at2 at3 at4 ?_; clear at1 at2 at3 at4; intro at1 at2 at3 at4
  obtain ⟨c0_0, c0_1, c0_2, c0_3, c0_4, c0_5⟩ := S.c6 0 rfl; obtain ⟨c1_0, c1_1, c1_2, c1_3, c1_4, c1_5⟩ := S.c6 1 rfl
  go_enter Tryz.func8, Tryz.ntmps8
  go_wp2_with fail; clear c0_0 c0_1 c0_2 c0_3 c0_4 c0_5 c1_0 c1_1 c1_2 c1_3 c1_4 c1_5
  refine (S.call (between_any _ (HT.out.below S.below))).mono ?_
  clear S
  rintro e w1 ⟨rfl, S, H⟩
  refine iv4 H at1 at2 at3 at4 ?_; clear at1 at2 at3 at4; intro at1 at2 at3 at4
  clear H; obtain ⟨c0_0, c0_1, c0_2, c0_3, c0_4, c0_5⟩ := S.c6 0 rfl; obtain ⟨c1_0, c1_1, c1_2, c1_3, c1_4, c1_5⟩ := S.c6 1 rfl
  have H := S.hnew 29 [.bool b1, .slice p1 l1 K1, .int .i64 e1, .bool b2, .slice p2 l2 K2, .int .i64 e2, .bool b3, .slice p3 l3 K3, .int .i64 e3, .bool b4, .slice p4 l4 K4, .int .i64 e4]
  replace S := S.al 29 [.bool b1, .slice p1 l1 K1, .int .i64 e1, .bool b2, .slice p2 l2 K2, .int .i64 e2, .bool b3, .slice p3 l3 K3, .int .i64 e3, .bool b4, .slice p4 l4 K4, .int .i64 e4] (w1.heap.size)
  refine iv4 H at1 at2 at3 at4 ?_; clear at1 at2 at3 at4; intro at1 at2 at3 at4
  clear H; go_wp2_with fail; clear c0_0 c0_1 c0_2 c0_3 c0_4 c0_5 c1_0 c1_1 c1_2 c1_3 c1_4 c1_5
  refine (S.call (sfit_at _ 2 _ _ (HT.out.below S.below) (S.lt 2 rfl) (by decide) (spraw2 S 2 rfl HL1.out HL2.out HL3.out HL4.out at1 HD1.out at2 HD2.out at3 HD3.out at4 HD4.out))).mono ?_
  clear S
  rintro e w2 ⟨⟨ok, rfl, hok⟩, S, H⟩
  refine iv4 H at1 at2 at3 at4 ?_; clear at1 at2 at3 at4; intro at1 at2 at3 at4
  clear H; obtain ⟨c0_0, c0_1, c0_2, c0_3, c0_4, c0_5⟩ := S.c6 0 rfl; obtain ⟨c1_0, c1_1, c1_2, c1_3, c1_4, c1_5⟩ := S.c6 1 rfl
  cases ok with
  | false =>
    go_wp2_with fail
    exact bodyPost_ret (v := .bool true) (by simp [results, Tryz.f8, go_sem]) rfl (⟨rfl, S.below⟩)
  | true =>
    obtain ⟨t1, t2, t1x⟩ : TriedS ⟨b1, b2, p1, p2, ds1, ds2, K1, K2, e1, e2⟩ := hok.out rfl 0 (by decide)
    obtain ⟨x1, hx1⟩ : ∃ x, rawQ b1 ds1 e1 = x := ⟨_, rfl⟩
    obtain ⟨m1, h1, n1, d1⟩ := raw_num hx1 t1 HD1.out HL1.out at1
    obtain ⟨x2, hx2⟩ : ∃ x, rawQ b2 ds2 e2 = x := ⟨_, rfl⟩
    obtain ⟨m2, h2, n2, d2⟩ := raw_num hx2 t2 HD2.out HL2.out at2
    have g1 : x1 ≤ x2 := by rw [← hx1, ← hx2]; exact Rat.not_lt.1 t1x
    clear t1 t2 t1x hx1 hx2
    obtain ⟨t3, t4, t3x⟩ : TriedS ⟨b3, b4, p3, p4, ds3, ds4, K3, K4, e3, e4⟩ := hok.out rfl 1 (by decide)
    obtain ⟨x3, hx3⟩ : ∃ x, rawQ b3 ds3 e3 = x := ⟨_, rfl⟩
    obtain ⟨m3, h3, n3, d3⟩ := raw_num hx3 t3 HD3.out HL3.out at3
    obtain ⟨x4, hx4⟩ : ∃ x, rawQ b4 ds4 e4 = x := ⟨_, rfl⟩
    obtain ⟨m4, h4, n4, d4⟩ := raw_num hx4 t4 HD4.out HL4.out at4
    have g3 : x3 ≤ x4 := by rw [← hx3, ← hx4]; exact Rat.not_lt.1 t3x
    clear t3 t4 t3x hx3 hx4
    have G := Lib.hid (And.intro g1 g3)
    clear hok g1 g3; clear at1 at2 at3 at4; clear c0_0 c0_1 c0_2 c0_3 c0_4 c0_5 c1_0 c1_1 c1_2 c1_3 c1_4 c1_5
    replace S := S.take 2 (L := [(w.heap.size, 29, [.bool b1, .slice p1 l1 K1, .int .i64 e1, .bool b2, .slice p2 l2 K2, .int .i64 e2]), (w.heap.size + 1, 29, [.bool b3, .slice p3 l3 K3, .int .i64 e3, .bool b4, .slice p4 l4 K4, .int .i64 e4])]) rfl
    by_cases hb1 : y1 < 2
    ·
      go_wp2_with fail
      exact bodyPost_ret (v := .bool true) (by simp [results, Tryz.f8, go_sem]) rfl (⟨rfl, S.below⟩)
    by_cases hb2 : 300 < y1
    ·
      go_wp2_with fail
      exact bodyPost_ret (v := .bool true) (by simp [results, Tryz.f8, go_sem]) rfl (⟨rfl, S.below⟩)
    obtain ⟨k, hk⟩ : ∃ k : Nat, (k : Int) = y1 := ⟨y1.toNat, by omega⟩
    subst hk
    have HK := Lib.hid (show 2 ≤ k ∧ k ≤ 4096 by omega)
    obtain ⟨md, hmd⟩ : ∃ q, (x1 + x2) * (1 / 2) = q := ⟨_, rfl⟩
    obtain ⟨u, hu⟩ : ∃ q, min2 x1 x3 = q := ⟨_, rfl⟩
    obtain ⟨v, hv⟩ : ∃ q, max2 x2 x4 = q := ⟨_, rfl⟩
    have HN := Lib.hid (nests_all (m := md) (u := u) (v := v) (n := k) d1.out.dyx d2.out.dyx (by rw [← hmd]; exact dyx_half d1.out.dyx d2.out.dyx) (by rw [← hu]; exact min2_dyx d1.out.dyx d3.out.dyx) (by rw [← hv]; exact max2_dyx d2.out.dyx d4.out.dyx) (show x1 ≤ md by have := G.out.1; rw [← hmd]; grind) (show md ≤ x2 by have := G.out.1; rw [← hmd]; grind) (by rw [← hu]; exact (min2_le _ _).1) (by rw [← hv]; exact (max2_ge _ _).1) HK.out.1)
    have HE := Lib.hid (And.intro hmd (And.intro hu hv))
    clear hmd hu hv hy0 hy1; obtain ⟨c0_0, c0_1, c0_2, c0_3, c0_4, c0_5⟩ := S.c6 0 rfl; obtain ⟨c1_0, c1_1, c1_2, c1_3, c1_4, c1_5⟩ := S.c6 1 rfl; go_wp2_with fail; clear c0_0 c0_1 c0_2 c0_3 c0_4 c0_5 c1_0 c1_1 c1_2 c1_3 c1_4 c1_5
    refine (S.call (shull_any (L := 200) (H := 520) ⟨b1, p1, l1, K1, m1, e1, b2, p2, l2, K2, m2, e2, rfl, h1, n1, d1, h2, n2, d2⟩ ⟨b3, p3, l3, K3, m3, e3, b4, p4, l4, K4, m4, e4, rfl, h3, n3, d3, h4, n4, d4⟩ (by decide))).mono ?_
    clear S
    rintro e w3 ⟨⟨_, rfl, b5, p5, l5, K5, m5, e5, b6, p6, l6, K6, m6, e6, rfl, h5, n5, d5, h6, n6, d6⟩, S, H⟩
    refine iv4 H n1 n2 n3 n4 ?_; clear n1 n2 n3 n4; intro n1 n2 n3 n4
    clear H; obtain ⟨c0_0, c0_1, c0_2, c0_3, c0_4, c0_5⟩ := S.c6 0 rfl; obtain ⟨c1_0, c1_1, c1_2, c1_3, c1_4, c1_5⟩ := S.c6 1 rfl
    rw [HE.out.2.1] at d5
    rw [HE.out.2.2] at d6
    have H := S.hnew 29 [.bool b5, .slice p5 l5 K5, .int .i64 e5, .bool b6, .slice p6 l6 K6, .int .i64 e6]
    replace S := S.al 29 [.bool b5, .slice p5 l5 K5, .int .i64 e5, .bool b6, .slice p6 l6 K6, .int .i64 e6] (w3.heap.size)
    refine iv6 H n1 n2 n3 n4 n5 n6 ?_; clear n1 n2 n3 n4 n5 n6; intro n1 n2 n3 n4 n5 n6
    clear H; clear c0_0 c0_1 c0_2 c0_3 c0_4 c0_5 c1_0 c1_1 c1_2 c1_3 c1_4 c1_5; obtain ⟨c0_0, c0_1, c0_2, c0_3, c0_4, c0_5⟩ := S.c6 0 rfl; go_wp2_with fail; clear c0_0 c0_1 c0_2 c0_3 c0_4 c0_5
    refine (S.call (smiddle_any (L := 200) (H := 520) (HT.out.below S.below) ⟨b1, p1, l1, K1, m1, e1, b2, p2, l2, K2, m2, e2, rfl, h1, n1, d1, h2, n2, d2⟩ (by decide) md HE.out.1)).mono ?_
    clear S
    rintro e w4 ⟨⟨_, rfl, b7, p7, l7, K7, m7, e7, rfl, h7, n7, d7⟩, S, H⟩
    refine iv6 H n1 n2 n3 n4 n5 n6 ?_; clear n1 n2 n3 n4 n5 n6; intro n1 n2 n3 n4 n5 n6
    clear H; obtain ⟨c0_0, c0_1, c0_2, c0_3, c0_4, c0_5⟩ := S.c6 0 rfl
    have H := S.hnew 27 [.bool b7, .slice p7 l7 K7, .int .i64 e7]
    replace S := S.al 27 [.bool b7, .slice p7 l7 K7, .int .i64 e7] (w4.heap.size)
    refine iv7 H n1 n2 n3 n4 n5 n6 n7 ?_; clear n1 n2 n3 n4 n5 n6 n7; intro n1 n2 n3 n4 n5 n6 n7
    clear H; clear c0_0 c0_1 c0_2 c0_3 c0_4 c0_5; obtain ⟨c3_0, c3_1, c3_2⟩ := S.c3 3 rfl; go_wp2_with fail
    generalize (.tuple #[.agg #[.bool b7, .slice p7 l7 K7, .int .i64 e7], .int .i64 0] : Value) = g1
    clear c3_0 c3_1 c3_2
    refine (S.call (spoint_any (L := 201) (H := 520) ⟨b7, p7, l7, K7, m7, e7, rfl, h7, n7, d7⟩ (by decide))).mono ?_
    clear S
    rintro e w5 ⟨⟨_, rfl, b8, p8, l8, K8, m8, e8, b9, p9, l9, K9, m9, e9, rfl, h8, n8, d8, h9, n9, d9⟩, S, H⟩
    refine iv7 H n1 n2 n3 n4 n5 n6 n7 ?_; clear n1 n2 n3 n4 n5 n6 n7; intro n1 n2 n3 n4 n5 n6 n7
    clear H; obtain ⟨c3_0, c3_1, c3_2⟩ := S.c3 3 rfl
    have H := S.hnew 29 [.bool b8, .slice p8 l8 K8, .int .i64 e8, .bool b9, .slice p9 l9 K9, .int .i64 e9]
    replace S := S.al 29 [.bool b8, .slice p8 l8 K8, .int .i64 e8, .bool b9, .slice p9 l9 K9, .int .i64 e9] (w5.heap.size)
    refine iv8 H n1 n2 n3 n4 n5 n6 n7 n8 ?_; clear n1 n2 n3 n4 n5 n6 n7 n8; intro n1 n2 n3 n4 n5 n6 n7 n8; replace n9 := n9.hold H
    clear H; go_wp2_with fail; clear c3_0 c3_1 c3_2
    obtain ⟨gh, hgh⟩ : ∃ g, w3.heap.size = g := ⟨_, rfl⟩
    rw [hgh] at S ⊢
    clear hgh
    obtain ⟨gm, hgm⟩ : ∃ g, w4.heap.size = g := ⟨_, rfl⟩
    rw [hgm] at S ⊢
    clear hgm
    obtain ⟨gp, hgp⟩ : ∃ g, w5.heap.size = g := ⟨_, rfl⟩
    rw [hgp] at S ⊢
    clear hgp; clear n3 n4 n7
    go_loopw [45] (fun si wr => (si = .int .i64 0 ∧ IsNat wr (.slice p1 l1 K1) m1.natAbs ∧ IsNat wr (.slice p2 l2 K2) m2.natAbs ∧ IsNat wr (.slice p5 l5 K5) m5.natAbs ∧ IsNat wr (.slice p6 l6 K6) m6.natAbs ∧ IsNat wr (.slice p8 l8 K8) m8.natAbs ∧ IsNat wr (.slice p9 l9 K9) m9.natAbs ∧ St w wr [(w.heap.size, 29, [.bool b1, .slice p1 l1 K1, .int .i64 e1, .bool b2, .slice p2 l2 K2, .int .i64 e2]), (w.heap.size + 1, 29, [.bool b3, .slice p3 l3 K3, .int .i64 e3, .bool b4, .slice p4 l4 K4, .int .i64 e4]), (gh, 29, [.bool b5, .slice p5 l5 K5, .int .i64 e5, .bool b6, .slice p6 l6 K6, .int .i64 e6]), (gm, 27, [.bool b7, .slice p7 l7 K7, .int .i64 e7]), (gp, 29, [.bool b8, .slice p8 l8 K8, .int .i64 e8, .bool b9, .slice p9 l9 K9, .int .i64 e9])]) ∨ (si = .int .i64 1 ∧ IsNat wr (.slice p1 l1 K1) m1.natAbs ∧ IsNat wr (.slice p2 l2 K2) m2.natAbs ∧ IsNat wr (.slice p5 l5 K5) m5.natAbs ∧ IsNat wr (.slice p6 l6 K6) m6.natAbs ∧ IsNat wr (.slice p8 l8 K8) m8.natAbs ∧ IsNat wr (.slice p9 l9 K9) m9.natAbs ∧ St w wr [(w.heap.size, 29, [.bool b1, .slice p1 l1 K1, .int .i64 e1, .bool b2, .slice p2 l2 K2, .int .i64 e2]), (w.heap.size + 1, 29, [.bool b3, .slice p3 l3 K3, .int .i64 e3, .bool b4, .slice p4 l4 K4, .int .i64 e4]), (gh, 29, [.bool b5, .slice p5 l5 K5, .int .i64 e5, .bool b6, .slice p6 l6 K6, .int .i64 e6]), (gm, 27, [.bool b7, .slice p7 l7 K7, .int .i64 e7]), (gp, 29, [.bool b8, .slice p8 l8 K8, .int .i64 e8, .bool b9, .slice p9 l9 K9, .int .i64 e9])]) ∨ (si = .int .i64 2 ∧ IsNat wr (.slice p1 l1 K1) m1.natAbs ∧ IsNat wr (.slice p2 l2 K2) m2.natAbs ∧ IsNat wr (.slice p5 l5 K5) m5.natAbs ∧ IsNat wr (.slice p6 l6 K6) m6.natAbs ∧ IsNat wr (.slice p8 l8 K8) m8.natAbs ∧ IsNat wr (.slice p9 l9 K9) m9.natAbs ∧ St w wr [(w.heap.size, 29, [.bool b1, .slice p1 l1 K1, .int .i64 e1, .bool b2, .slice p2 l2 K2, .int .i64 e2]), (w.heap.size + 1, 29, [.bool b3, .slice p3 l3 K3, .int .i64 e3, .bool b4, .slice p4 l4 K4, .int .i64 e4]), (gh, 29, [.bool b5, .slice p5 l5 K5, .int .i64 e5, .bool b6, .slice p6 l6 K6, .int .i64 e6]), (gm, 27, [.bool b7, .slice p7 l7 K7, .int .i64 e7]), (gp, 29, [.bool b8, .slice p8 l8 K8, .int .i64 e8, .bool b9, .slice p9 l9 K9, .int .i64 e9])]) ∨ (si = .int .i64 3 ∧ IsNat wr (.slice p1 l1 K1) m1.natAbs ∧ IsNat wr (.slice p2 l2 K2) m2.natAbs ∧ IsNat wr (.slice p5 l5 K5) m5.natAbs ∧ IsNat wr (.slice p6 l6 K6) m6.natAbs ∧ IsNat wr (.slice p8 l8 K8) m8.natAbs ∧ IsNat wr (.slice p9 l9 K9) m9.natAbs ∧ St w wr [(w.heap.size, 29, [.bool b1, .slice p1 l1 K1, .int .i64 e1, .bool b2, .slice p2 l2 K2, .int .i64 e2]), (w.heap.size + 1, 29, [.bool b3, .slice p3 l3 K3, .int .i64 e3, .bool b4, .slice p4 l4 K4, .int .i64 e4]), (gh, 29, [.bool b5, .slice p5 l5 K5, .int .i64 e5, .bool b6, .slice p6 l6 K6, .int .i64 e6]), (gm, 27, [.bool b7, .slice p7 l7 K7, .int .i64 e7]), (gp, 29, [.bool b8, .slice p8 l8 K8, .int .i64 e8, .bool b9, .slice p9 l9 K9, .int .i64 e9])])) (fun si _ => 3 - (intOf si).toNat)
    case atStart => exact .inl ⟨rfl, n1, n2, n5, n6, n8, n9, S⟩
    case round =>
      clear n1 n2 n5 n6 n8 n9 S
      rcases hrel with ⟨rfl, n1, n2, n5, n6, n8, n9, S⟩ | ⟨rfl, n1, n2, n5, n6, n8, n9, S⟩ | ⟨rfl, n1, n2, n5, n6, n8, n9, S⟩ | ⟨rfl, n1, n2, n5, n6, n8, n9, S⟩
      ·
        obtain ⟨c0_0, c0_1, c0_2, c0_3, c0_4, c0_5⟩ := S.c6 0 rfl; obtain ⟨c4_0, c4_1, c4_2, c4_3, c4_4, c4_5⟩ := S.c6 4 rfl; go_wp2_with fail; clear c0_0 c0_1 c0_2 c0_3 c0_4 c0_5 c4_0 c4_1 c4_2 c4_3 c4_4 c4_5
        refine (S.call (sreckon_0 (L := 201) (H := 520) (HT.out.below S.below) ⟨b8, p8, l8, K8, m8, e8, b9, p9, l9, K9, m9, e9, rfl, h8, n8, d8, h9, n9, d9⟩ (IsSp.mono (L := 200) (H := 520) (L' := 201) (H' := 520) ⟨b1, p1, l1, K1, m1, e1, b2, p2, l2, K2, m2, e2, rfl, h1, n1, d1, h2, n2, d2⟩ (by decide) (by decide)) (by decide) k HK.out.1 HK.out.2 rfl rfl)).mono ?_
        clear S
        rintro e w61 ⟨⟨_, rfl, b11, p11, l11, K11, m11, e11, b12, p12, l12, K12, m12, e12, rfl, h11, n11, d11, h12, n12, d12⟩, S, H⟩
        refine iv6 H n1 n2 n5 n6 n8 n9 ?_; clear n1 n2 n5 n6 n8 n9; intro n1 n2 n5 n6 n8 n9
        clear H; obtain ⟨c0_0, c0_1, c0_2, c0_3, c0_4, c0_5⟩ := S.c6 0 rfl; obtain ⟨c4_0, c4_1, c4_2, c4_3, c4_4, c4_5⟩ := S.c6 4 rfl
        have H := S.hnew 29 [.bool b11, .slice p11 l11 K11, .int .i64 e11, .bool b12, .slice p12 l12 K12, .int .i64 e12]
        replace S := S.al 29 [.bool b11, .slice p11 l11 K11, .int .i64 e11, .bool b12, .slice p12 l12 K12, .int .i64 e12] (w61.heap.size)
        refine iv8 H n1 n2 n5 n6 n8 n9 n11 n12 ?_; clear n1 n2 n5 n6 n8 n9 n11 n12; intro n1 n2 n5 n6 n8 n9 n11 n12
        clear H; clear c0_0 c0_1 c0_2 c0_3 c0_4 c0_5 c4_0 c4_1 c4_2 c4_3 c4_4 c4_5; obtain ⟨c0_0, c0_1, c0_2, c0_3, c0_4, c0_5⟩ := S.c6 0 rfl; go_wp2_with fail
        generalize (.tuple #[.agg #[.bool b11, .slice p11 l11 K11, .int .i64 e11, .bool b12, .slice p12 l12 K12, .int .i64 e12], .int .i64 0] : Value) = g1
        clear c0_0 c0_1 c0_2 c0_3 c0_4 c0_5
        refine (S.call (sreckon_0 (L := 200) (H := 520) (HT.out.below S.below) ⟨b1, p1, l1, K1, m1, e1, b2, p2, l2, K2, m2, e2, rfl, h1, n1, d1, h2, n2, d2⟩ ⟨b1, p1, l1, K1, m1, e1, b2, p2, l2, K2, m2, e2, rfl, h1, n1, d1, h2, n2, d2⟩ (by decide) k HK.out.1 HK.out.2 rfl rfl)).mono ?_
        clear S
        rintro e w62 ⟨⟨_, rfl, b13, p13, l13, K13, m13, e13, b14, p14, l14, K14, m14, e14, rfl, h13, n13, d13, h14, n14, d14⟩, S, H⟩
        refine iv8 H n1 n2 n5 n6 n8 n9 n11 n12 ?_; clear n1 n2 n5 n6 n8 n9 n11 n12; intro n1 n2 n5 n6 n8 n9 n11 n12
        clear H; obtain ⟨c0_0, c0_1, c0_2, c0_3, c0_4, c0_5⟩ := S.c6 0 rfl
        have H := S.hnew 29 [.bool b13, .slice p13 l13 K13, .int .i64 e13, .bool b14, .slice p14 l14 K14, .int .i64 e14]
        replace S := S.al 29 [.bool b13, .slice p13 l13 K13, .int .i64 e13, .bool b14, .slice p14 l14 K14, .int .i64 e14] (w62.heap.size)
        refine iv8 H n1 n2 n5 n6 n8 n9 n11 n12 ?_; clear n1 n2 n5 n6 n8 n9 n11 n12; intro n1 n2 n5 n6 n8 n9 n11 n12; refine iv2 H n13 n14 ?_; clear n13 n14; intro n13 n14
        clear H; clear c0_0 c0_1 c0_2 c0_3 c0_4 c0_5; obtain ⟨c2_0, c2_1, c2_2, c2_3, c2_4, c2_5⟩ := S.c6 2 rfl; go_wp2_with fail
        generalize (.tuple #[.agg #[.bool b13, .slice p13 l13 K13, .int .i64 e13, .bool b14, .slice p14 l14 K14, .int .i64 e14], .int .i64 0] : Value) = g2
        clear c2_0 c2_1 c2_2 c2_3 c2_4 c2_5
        refine (S.call (sreckon_0 (L := 200) (H := 520) (HT.out.below S.below) ⟨b5, p5, l5, K5, m5, e5, b6, p6, l6, K6, m6, e6, rfl, h5, n5, d5, h6, n6, d6⟩ ⟨b5, p5, l5, K5, m5, e5, b6, p6, l6, K6, m6, e6, rfl, h5, n5, d5, h6, n6, d6⟩ (by decide) k HK.out.1 HK.out.2 rfl rfl)).mono ?_
        clear S
        rintro e w63 ⟨⟨_, rfl, b15, p15, l15, K15, m15, e15, b16, p16, l16, K16, m16, e16, rfl, h15, n15, d15, h16, n16, d16⟩, S, H⟩
        refine iv8 H n1 n2 n5 n6 n8 n9 n11 n12 ?_; clear n1 n2 n5 n6 n8 n9 n11 n12; intro n1 n2 n5 n6 n8 n9 n11 n12; refine iv2 H n13 n14 ?_; clear n13 n14; intro n13 n14
        clear H; obtain ⟨c2_0, c2_1, c2_2, c2_3, c2_4, c2_5⟩ := S.c6 2 rfl
        have H := S.hnew 29 [.bool b15, .slice p15 l15 K15, .int .i64 e15, .bool b16, .slice p16 l16 K16, .int .i64 e16]
        replace S := S.al 29 [.bool b15, .slice p15 l15 K15, .int .i64 e15, .bool b16, .slice p16 l16 K16, .int .i64 e16] (w63.heap.size)
        refine iv8 H n1 n2 n5 n6 n8 n9 n11 n12 ?_; clear n1 n2 n5 n6 n8 n9 n11 n12; intro n1 n2 n5 n6 n8 n9 n11 n12; refine iv4 H n13 n14 n15 n16 ?_; clear n13 n14 n15 n16; intro n13 n14 n15 n16
        clear H; clear c2_0 c2_1 c2_2 c2_3 c2_4 c2_5; obtain ⟨c5_0, c5_1, c5_2, c5_3, c5_4, c5_5⟩ := S.c6 5 rfl; obtain ⟨c6_0, c6_1, c6_2, c6_3, c6_4, c6_5⟩ := S.c6 6 rfl; go_wp2_with fail
        generalize (.tuple #[.agg #[.bool b15, .slice p15 l15 K15, .int .i64 e15, .bool b16, .slice p16 l16 K16, .int .i64 e16], .int .i64 0] : Value) = g3
        clear c5_0 c5_1 c5_2 c5_3 c5_4 c5_5 c6_0 c6_1 c6_2 c6_3 c6_4 c6_5
        refine (S.call (sholds_any (L := 201) (H := 522) (IsSp.mono (L := 200) (H := 522) (L' := 201) (H' := 522) ⟨b13, p13, l13, K13, m13, e13, b14, p14, l14, K14, m14, e14, rfl, h13, n13, d13, h14, n14, d14⟩ (by decide) (by decide)) ⟨b11, p11, l11, K11, m11, e11, b12, p12, l12, K12, m12, e12, rfl, h11, n11, d11, h12, n12, d12⟩ (by decide) true (hold2 HN.out.1.1.1 HN.out.1.1.2))).mono ?_
        clear S
        rintro e w64 ⟨rfl, S, H⟩
        refine iv8 H n1 n2 n5 n6 n8 n9 n11 n12 ?_; clear n1 n2 n5 n6 n8 n9 n11 n12; intro n1 n2 n5 n6 n8 n9 n11 n12; refine iv4 H n13 n14 n15 n16 ?_; clear n13 n14 n15 n16; intro n13 n14 n15 n16
        clear H; obtain ⟨c5_0, c5_1, c5_2, c5_3, c5_4, c5_5⟩ := S.c6 5 rfl; obtain ⟨c6_0, c6_1, c6_2, c6_3, c6_4, c6_5⟩ := S.c6 6 rfl; clear c5_0 c5_1 c5_2 c5_3 c5_4 c5_5 c6_0 c6_1 c6_2 c6_3 c6_4 c6_5; obtain ⟨c6_0, c6_1, c6_2, c6_3, c6_4, c6_5⟩ := S.c6 6 rfl; obtain ⟨c7_0, c7_1, c7_2, c7_3, c7_4, c7_5⟩ := S.c6 7 rfl; go_wp2_with fail; clear c6_0 c6_1 c6_2 c6_3 c6_4 c6_5 c7_0 c7_1 c7_2 c7_3 c7_4 c7_5
        refine (S.call (sholds_any (L := 200) (H := 522) ⟨b15, p15, l15, K15, m15, e15, b16, p16, l16, K16, m16, e16, rfl, h15, n15, d15, h16, n16, d16⟩ ⟨b13, p13, l13, K13, m13, e13, b14, p14, l14, K14, m14, e14, rfl, h13, n13, d13, h14, n14, d14⟩ (by decide) true (hold2 HN.out.1.2.1 HN.out.1.2.2))).mono ?_
        clear S
        rintro e w65 ⟨rfl, S, H⟩
        refine iv8 H n1 n2 n5 n6 n8 n9 n11 n12 ?_; clear n1 n2 n5 n6 n8 n9 n11 n12; intro n1 n2 n5 n6 n8 n9 n11 n12; refine iv4 H n13 n14 n15 n16 ?_; clear n13 n14 n15 n16; intro n13 n14 n15 n16
        clear H; obtain ⟨c6_0, c6_1, c6_2, c6_3, c6_4, c6_5⟩ := S.c6 6 rfl; obtain ⟨c7_0, c7_1, c7_2, c7_3, c7_4, c7_5⟩ := S.c6 7 rfl; go_wp2_with fail; clear c6_0 c6_1 c6_2 c6_3 c6_4 c6_5 c7_0 c7_1 c7_2 c7_3 c7_4 c7_5
        replace S := S.take 5 (L := [(w.heap.size, 29, [.bool b1, .slice p1 l1 K1, .int .i64 e1, .bool b2, .slice p2 l2 K2, .int .i64 e2]), (w.heap.size + 1, 29, [.bool b3, .slice p3 l3 K3, .int .i64 e3, .bool b4, .slice p4 l4 K4, .int .i64 e4]), (gh, 29, [.bool b5, .slice p5 l5 K5, .int .i64 e5, .bool b6, .slice p6 l6 K6, .int .i64 e6]), (gm, 27, [.bool b7, .slice p7 l7 K7, .int .i64 e7]), (gp, 29, [.bool b8, .slice p8 l8 K8, .int .i64 e8, .bool b9, .slice p9 l9 K9, .int .i64 e9])]) rfl
        go_roundw
        case rel => exact .inr (.inl ⟨rfl, n1, n2, n5, n6, n8, n9, S⟩)
        case measure => simp [intOf]
      ·
        obtain ⟨c0_0, c0_1, c0_2, c0_3, c0_4, c0_5⟩ := S.c6 0 rfl; obtain ⟨c4_0, c4_1, c4_2, c4_3, c4_4, c4_5⟩ := S.c6 4 rfl; go_wp2_with fail; clear c0_0 c0_1 c0_2 c0_3 c0_4 c0_5 c4_0 c4_1 c4_2 c4_3 c4_4 c4_5
        refine (S.call (sreckon_1 (L := 201) (H := 520) (HT.out.below S.below) ⟨b8, p8, l8, K8, m8, e8, b9, p9, l9, K9, m9, e9, rfl, h8, n8, d8, h9, n9, d9⟩ (IsSp.mono (L := 200) (H := 520) (L' := 201) (H' := 520) ⟨b1, p1, l1, K1, m1, e1, b2, p2, l2, K2, m2, e2, rfl, h1, n1, d1, h2, n2, d2⟩ (by decide) (by decide)) (by decide) k HK.out.1 HK.out.2 rfl rfl)).mono ?_
        clear S
        rintro e w61 ⟨⟨_, rfl, b11, p11, l11, K11, m11, e11, b12, p12, l12, K12, m12, e12, rfl, h11, n11, d11, h12, n12, d12⟩, S, H⟩
        refine iv6 H n1 n2 n5 n6 n8 n9 ?_; clear n1 n2 n5 n6 n8 n9; intro n1 n2 n5 n6 n8 n9
        clear H; obtain ⟨c0_0, c0_1, c0_2, c0_3, c0_4, c0_5⟩ := S.c6 0 rfl; obtain ⟨c4_0, c4_1, c4_2, c4_3, c4_4, c4_5⟩ := S.c6 4 rfl
        have H := S.hnew 29 [.bool b11, .slice p11 l11 K11, .int .i64 e11, .bool b12, .slice p12 l12 K12, .int .i64 e12]
        replace S := S.al 29 [.bool b11, .slice p11 l11 K11, .int .i64 e11, .bool b12, .slice p12 l12 K12, .int .i64 e12] (w61.heap.size)
        refine iv8 H n1 n2 n5 n6 n8 n9 n11 n12 ?_; clear n1 n2 n5 n6 n8 n9 n11 n12; intro n1 n2 n5 n6 n8 n9 n11 n12
        clear H; clear c0_0 c0_1 c0_2 c0_3 c0_4 c0_5 c4_0 c4_1 c4_2 c4_3 c4_4 c4_5; obtain ⟨c0_0, c0_1, c0_2, c0_3, c0_4, c0_5⟩ := S.c6 0 rfl; go_wp2_with fail
        generalize (.tuple #[.agg #[.bool b11, .slice p11 l11 K11, .int .i64 e11, .bool b12, .slice p12 l12 K12, .int .i64 e12], .int .i64 0] : Value) = g1
        clear c0_0 c0_1 c0_2 c0_3 c0_4 c0_5
        refine (S.call (sreckon_1 (L := 200) (H := 520) (HT.out.below S.below) ⟨b1, p1, l1, K1, m1, e1, b2, p2, l2, K2, m2, e2, rfl, h1, n1, d1, h2, n2, d2⟩ ⟨b1, p1, l1, K1, m1, e1, b2, p2, l2, K2, m2, e2, rfl, h1, n1, d1, h2, n2, d2⟩ (by decide) k HK.out.1 HK.out.2 rfl rfl)).mono ?_
        clear S
        rintro e w62 ⟨⟨_, rfl, b13, p13, l13, K13, m13, e13, b14, p14, l14, K14, m14, e14, rfl, h13, n13, d13, h14, n14, d14⟩, S, H⟩
        refine iv8 H n1 n2 n5 n6 n8 n9 n11 n12 ?_; clear n1 n2 n5 n6 n8 n9 n11 n12; intro n1 n2 n5 n6 n8 n9 n11 n12
        clear H; obtain ⟨c0_0, c0_1, c0_2, c0_3, c0_4, c0_5⟩ := S.c6 0 rfl
        have H := S.hnew 29 [.bool b13, .slice p13 l13 K13, .int .i64 e13, .bool b14, .slice p14 l14 K14, .int .i64 e14]
        replace S := S.al 29 [.bool b13, .slice p13 l13 K13, .int .i64 e13, .bool b14, .slice p14 l14 K14, .int .i64 e14] (w62.heap.size)
        refine iv8 H n1 n2 n5 n6 n8 n9 n11 n12 ?_; clear n1 n2 n5 n6 n8 n9 n11 n12; intro n1 n2 n5 n6 n8 n9 n11 n12; refine iv2 H n13 n14 ?_; clear n13 n14; intro n13 n14
        clear H; clear c0_0 c0_1 c0_2 c0_3 c0_4 c0_5; obtain ⟨c2_0, c2_1, c2_2, c2_3, c2_4, c2_5⟩ := S.c6 2 rfl; go_wp2_with fail
        generalize (.tuple #[.agg #[.bool b13, .slice p13 l13 K13, .int .i64 e13, .bool b14, .slice p14 l14 K14, .int .i64 e14], .int .i64 0] : Value) = g2
        clear c2_0 c2_1 c2_2 c2_3 c2_4 c2_5
        refine (S.call (sreckon_1 (L := 200) (H := 520) (HT.out.below S.below) ⟨b5, p5, l5, K5, m5, e5, b6, p6, l6, K6, m6, e6, rfl, h5, n5, d5, h6, n6, d6⟩ ⟨b5, p5, l5, K5, m5, e5, b6, p6, l6, K6, m6, e6, rfl, h5, n5, d5, h6, n6, d6⟩ (by decide) k HK.out.1 HK.out.2 rfl rfl)).mono ?_
        clear S
        rintro e w63 ⟨⟨_, rfl, b15, p15, l15, K15, m15, e15, b16, p16, l16, K16, m16, e16, rfl, h15, n15, d15, h16, n16, d16⟩, S, H⟩
        refine iv8 H n1 n2 n5 n6 n8 n9 n11 n12 ?_; clear n1 n2 n5 n6 n8 n9 n11 n12; intro n1 n2 n5 n6 n8 n9 n11 n12; refine iv2 H n13 n14 ?_; clear n13 n14; intro n13 n14
        clear H; obtain ⟨c2_0, c2_1, c2_2, c2_3, c2_4, c2_5⟩ := S.c6 2 rfl
        have H := S.hnew 29 [.bool b15, .slice p15 l15 K15, .int .i64 e15, .bool b16, .slice p16 l16 K16, .int .i64 e16]
        replace S := S.al 29 [.bool b15, .slice p15 l15 K15, .int .i64 e15, .bool b16, .slice p16 l16 K16, .int .i64 e16] (w63.heap.size)
        refine iv8 H n1 n2 n5 n6 n8 n9 n11 n12 ?_; clear n1 n2 n5 n6 n8 n9 n11 n12; intro n1 n2 n5 n6 n8 n9 n11 n12; refine iv4 H n13 n14 n15 n16 ?_; clear n13 n14 n15 n16; intro n13 n14 n15 n16
        clear H; clear c2_0 c2_1 c2_2 c2_3 c2_4 c2_5; obtain ⟨c5_0, c5_1, c5_2, c5_3, c5_4, c5_5⟩ := S.c6 5 rfl; obtain ⟨c6_0, c6_1, c6_2, c6_3, c6_4, c6_5⟩ := S.c6 6 rfl; go_wp2_with fail
        generalize (.tuple #[.agg #[.bool b15, .slice p15 l15 K15, .int .i64 e15, .bool b16, .slice p16 l16 K16, .int .i64 e16], .int .i64 0] : Value) = g3
        clear c5_0 c5_1 c5_2 c5_3 c5_4 c5_5 c6_0 c6_1 c6_2 c6_3 c6_4 c6_5
        refine (S.call (sholds_any (L := 201) (H := 522) (IsSp.mono (L := 200) (H := 522) (L' := 201) (H' := 522) ⟨b13, p13, l13, K13, m13, e13, b14, p14, l14, K14, m14, e14, rfl, h13, n13, d13, h14, n14, d14⟩ (by decide) (by decide)) ⟨b11, p11, l11, K11, m11, e11, b12, p12, l12, K12, m12, e12, rfl, h11, n11, d11, h12, n12, d12⟩ (by decide) true (hold2 HN.out.2.1.1.1 HN.out.2.1.1.2))).mono ?_
        clear S
        rintro e w64 ⟨rfl, S, H⟩
        refine iv8 H n1 n2 n5 n6 n8 n9 n11 n12 ?_; clear n1 n2 n5 n6 n8 n9 n11 n12; intro n1 n2 n5 n6 n8 n9 n11 n12; refine iv4 H n13 n14 n15 n16 ?_; clear n13 n14 n15 n16; intro n13 n14 n15 n16
        clear H; obtain ⟨c5_0, c5_1, c5_2, c5_3, c5_4, c5_5⟩ := S.c6 5 rfl; obtain ⟨c6_0, c6_1, c6_2, c6_3, c6_4, c6_5⟩ := S.c6 6 rfl; clear c5_0 c5_1 c5_2 c5_3 c5_4 c5_5 c6_0 c6_1 c6_2 c6_3 c6_4 c6_5; obtain ⟨c6_0, c6_1, c6_2, c6_3, c6_4, c6_5⟩ := S.c6 6 rfl; obtain ⟨c7_0, c7_1, c7_2, c7_3, c7_4, c7_5⟩ := S.c6 7 rfl; go_wp2_with fail; clear c6_0 c6_1 c6_2 c6_3 c6_4 c6_5 c7_0 c7_1 c7_2 c7_3 c7_4 c7_5
        refine (S.call (sholds_any (L := 200) (H := 522) ⟨b15, p15, l15, K15, m15, e15, b16, p16, l16, K16, m16, e16, rfl, h15, n15, d15, h16, n16, d16⟩ ⟨b13, p13, l13, K13, m13, e13, b14, p14, l14, K14, m14, e14, rfl, h13, n13, d13, h14, n14, d14⟩ (by decide) true (hold2 HN.out.2.1.2.1 HN.out.2.1.2.2))).mono ?_
        clear S
        rintro e w65 ⟨rfl, S, H⟩
        refine iv8 H n1 n2 n5 n6 n8 n9 n11 n12 ?_; clear n1 n2 n5 n6 n8 n9 n11 n12; intro n1 n2 n5 n6 n8 n9 n11 n12; refine iv4 H n13 n14 n15 n16 ?_; clear n13 n14 n15 n16; intro n13 n14 n15 n16
        clear H; obtain ⟨c6_0, c6_1, c6_2, c6_3, c6_4, c6_5⟩ := S.c6 6 rfl; obtain ⟨c7_0, c7_1, c7_2, c7_3, c7_4, c7_5⟩ := S.c6 7 rfl; go_wp2_with fail; clear c6_0 c6_1 c6_2 c6_3 c6_4 c6_5 c7_0 c7_1 c7_2 c7_3 c7_4 c7_5
        replace S := S.take 5 (L := [(w.heap.size, 29, [.bool b1, .slice p1 l1 K1, .int .i64 e1, .bool b2, .slice p2 l2 K2, .int .i64 e2]), (w.heap.size + 1, 29, [.bool b3, .slice p3 l3 K3, .int .i64 e3, .bool b4, .slice p4 l4 K4, .int .i64 e4]), (gh, 29, [.bool b5, .slice p5 l5 K5, .int .i64 e5, .bool b6, .slice p6 l6 K6, .int .i64 e6]), (gm, 27, [.bool b7, .slice p7 l7 K7, .int .i64 e7]), (gp, 29, [.bool b8, .slice p8 l8 K8, .int .i64 e8, .bool b9, .slice p9 l9 K9, .int .i64 e9])]) rfl
        go_roundw
        case rel => exact .inr (.inr (.inl ⟨rfl, n1, n2, n5, n6, n8, n9, S⟩))
        case measure => simp [intOf]
      ·
        obtain ⟨c0_0, c0_1, c0_2, c0_3, c0_4, c0_5⟩ := S.c6 0 rfl; obtain ⟨c4_0, c4_1, c4_2, c4_3, c4_4, c4_5⟩ := S.c6 4 rfl; go_wp2_with fail; clear c0_0 c0_1 c0_2 c0_3 c0_4 c0_5 c4_0 c4_1 c4_2 c4_3 c4_4 c4_5
        refine (S.call (sreckon_2 (L := 201) (H := 520) (HT.out.below S.below) ⟨b8, p8, l8, K8, m8, e8, b9, p9, l9, K9, m9, e9, rfl, h8, n8, d8, h9, n9, d9⟩ (IsSp.mono (L := 200) (H := 520) (L' := 201) (H' := 520) ⟨b1, p1, l1, K1, m1, e1, b2, p2, l2, K2, m2, e2, rfl, h1, n1, d1, h2, n2, d2⟩ (by decide) (by decide)) (by decide) k HK.out.1 HK.out.2 rfl rfl)).mono ?_
        clear S
        rintro e w61 ⟨⟨_, rfl, b11, p11, l11, K11, m11, e11, b12, p12, l12, K12, m12, e12, rfl, h11, n11, d11, h12, n12, d12⟩, S, H⟩
        refine iv6 H n1 n2 n5 n6 n8 n9 ?_; clear n1 n2 n5 n6 n8 n9; intro n1 n2 n5 n6 n8 n9
        clear H; obtain ⟨c0_0, c0_1, c0_2, c0_3, c0_4, c0_5⟩ := S.c6 0 rfl; obtain ⟨c4_0, c4_1, c4_2, c4_3, c4_4, c4_5⟩ := S.c6 4 rfl
        have H := S.hnew 29 [.bool b11, .slice p11 l11 K11, .int .i64 e11, .bool b12, .slice p12 l12 K12, .int .i64 e12]
        replace S := S.al 29 [.bool b11, .slice p11 l11 K11, .int .i64 e11, .bool b12, .slice p12 l12 K12, .int .i64 e12] (w61.heap.size)
        refine iv8 H n1 n2 n5 n6 n8 n9 n11 n12 ?_; clear n1 n2 n5 n6 n8 n9 n11 n12; intro n1 n2 n5 n6 n8 n9 n11 n12
        clear H; clear c0_0 c0_1 c0_2 c0_3 c0_4 c0_5 c4_0 c4_1 c4_2 c4_3 c4_4 c4_5; obtain ⟨c0_0, c0_1, c0_2, c0_3, c0_4, c0_5⟩ := S.c6 0 rfl; go_wp2_with fail
        generalize (.tuple #[.agg #[.bool b11, .slice p11 l11 K11, .int .i64 e11, .bool b12, .slice p12 l12 K12, .int .i64 e12], .int .i64 0] : Value) = g1
        clear c0_0 c0_1 c0_2 c0_3 c0_4 c0_5
        refine (S.call (sreckon_2 (L := 200) (H := 520) (HT.out.below S.below) ⟨b1, p1, l1, K1, m1, e1, b2, p2, l2, K2, m2, e2, rfl, h1, n1, d1, h2, n2, d2⟩ ⟨b1, p1, l1, K1, m1, e1, b2, p2, l2, K2, m2, e2, rfl, h1, n1, d1, h2, n2, d2⟩ (by decide) k HK.out.1 HK.out.2 rfl rfl)).mono ?_
        clear S
        rintro e w62 ⟨⟨_, rfl, b13, p13, l13, K13, m13, e13, b14, p14, l14, K14, m14, e14, rfl, h13, n13, d13, h14, n14, d14⟩, S, H⟩
        refine iv8 H n1 n2 n5 n6 n8 n9 n11 n12 ?_; clear n1 n2 n5 n6 n8 n9 n11 n12; intro n1 n2 n5 n6 n8 n9 n11 n12
        clear H; obtain ⟨c0_0, c0_1, c0_2, c0_3, c0_4, c0_5⟩ := S.c6 0 rfl
        have H := S.hnew 29 [.bool b13, .slice p13 l13 K13, .int .i64 e13, .bool b14, .slice p14 l14 K14, .int .i64 e14]
        replace S := S.al 29 [.bool b13, .slice p13 l13 K13, .int .i64 e13, .bool b14, .slice p14 l14 K14, .int .i64 e14] (w62.heap.size)
        refine iv8 H n1 n2 n5 n6 n8 n9 n11 n12 ?_; clear n1 n2 n5 n6 n8 n9 n11 n12; intro n1 n2 n5 n6 n8 n9 n11 n12; refine iv2 H n13 n14 ?_; clear n13 n14; intro n13 n14
        clear H; clear c0_0 c0_1 c0_2 c0_3 c0_4 c0_5; obtain ⟨c2_0, c2_1, c2_2, c2_3, c2_4, c2_5⟩ := S.c6 2 rfl; go_wp2_with fail
        generalize (.tuple #[.agg #[.bool b13, .slice p13 l13 K13, .int .i64 e13, .bool b14, .slice p14 l14 K14, .int .i64 e14], .int .i64 0] : Value) = g2
        clear c2_0 c2_1 c2_2 c2_3 c2_4 c2_5
        refine (S.call (sreckon_2 (L := 200) (H := 520) (HT.out.below S.below) ⟨b5, p5, l5, K5, m5, e5, b6, p6, l6, K6, m6, e6, rfl, h5, n5, d5, h6, n6, d6⟩ ⟨b5, p5, l5, K5, m5, e5, b6, p6, l6, K6, m6, e6, rfl, h5, n5, d5, h6, n6, d6⟩ (by decide) k HK.out.1 HK.out.2 rfl rfl)).mono ?_
        clear S
        rintro e w63 ⟨⟨_, rfl, b15, p15, l15, K15, m15, e15, b16, p16, l16, K16, m16, e16, rfl, h15, n15, d15, h16, n16, d16⟩, S, H⟩
        refine iv8 H n1 n2 n5 n6 n8 n9 n11 n12 ?_; clear n1 n2 n5 n6 n8 n9 n11 n12; intro n1 n2 n5 n6 n8 n9 n11 n12; refine iv2 H n13 n14 ?_; clear n13 n14; intro n13 n14
        clear H; obtain ⟨c2_0, c2_1, c2_2, c2_3, c2_4, c2_5⟩ := S.c6 2 rfl
        have H := S.hnew 29 [.bool b15, .slice p15 l15 K15, .int .i64 e15, .bool b16, .slice p16 l16 K16, .int .i64 e16]
        replace S := S.al 29 [.bool b15, .slice p15 l15 K15, .int .i64 e15, .bool b16, .slice p16 l16 K16, .int .i64 e16] (w63.heap.size)
        refine iv8 H n1 n2 n5 n6 n8 n9 n11 n12 ?_; clear n1 n2 n5 n6 n8 n9 n11 n12; intro n1 n2 n5 n6 n8 n9 n11 n12; refine iv4 H n13 n14 n15 n16 ?_; clear n13 n14 n15 n16; intro n13 n14 n15 n16
        clear H; clear c2_0 c2_1 c2_2 c2_3 c2_4 c2_5; obtain ⟨c5_0, c5_1, c5_2, c5_3, c5_4, c5_5⟩ := S.c6 5 rfl; obtain ⟨c6_0, c6_1, c6_2, c6_3, c6_4, c6_5⟩ := S.c6 6 rfl; go_wp2_with fail
        generalize (.tuple #[.agg #[.bool b15, .slice p15 l15 K15, .int .i64 e15, .bool b16, .slice p16 l16 K16, .int .i64 e16], .int .i64 0] : Value) = g3
        clear c5_0 c5_1 c5_2 c5_3 c5_4 c5_5 c6_0 c6_1 c6_2 c6_3 c6_4 c6_5
        refine (S.call (sholds_any (L := 402) (H := 1041) (IsSp.mono (L := 400) (H := 1041) (L' := 402) (H' := 1041) ⟨b13, p13, l13, K13, m13, e13, b14, p14, l14, K14, m14, e14, rfl, h13, n13, d13, h14, n14, d14⟩ (by decide) (by decide)) ⟨b11, p11, l11, K11, m11, e11, b12, p12, l12, K12, m12, e12, rfl, h11, n11, d11, h12, n12, d12⟩ (by decide) true (hold2 HN.out.2.2.1.1 HN.out.2.2.1.2))).mono ?_
        clear S
        rintro e w64 ⟨rfl, S, H⟩
        refine iv8 H n1 n2 n5 n6 n8 n9 n11 n12 ?_; clear n1 n2 n5 n6 n8 n9 n11 n12; intro n1 n2 n5 n6 n8 n9 n11 n12; refine iv4 H n13 n14 n15 n16 ?_; clear n13 n14 n15 n16; intro n13 n14 n15 n16
        clear H; obtain ⟨c5_0, c5_1, c5_2, c5_3, c5_4, c5_5⟩ := S.c6 5 rfl; obtain ⟨c6_0, c6_1, c6_2, c6_3, c6_4, c6_5⟩ := S.c6 6 rfl; clear c5_0 c5_1 c5_2 c5_3 c5_4 c5_5 c6_0 c6_1 c6_2 c6_3 c6_4 c6_5; obtain ⟨c6_0, c6_1, c6_2, c6_3, c6_4, c6_5⟩ := S.c6 6 rfl; obtain ⟨c7_0, c7_1, c7_2, c7_3, c7_4, c7_5⟩ := S.c6 7 rfl; go_wp2_with fail; clear c6_0 c6_1 c6_2 c6_3 c6_4 c6_5 c7_0 c7_1 c7_2 c7_3 c7_4 c7_5
        refine (S.call (sholds_any (L := 400) (H := 1041) ⟨b15, p15, l15, K15, m15, e15, b16, p16, l16, K16, m16, e16, rfl, h15, n15, d15, h16, n16, d16⟩ ⟨b13, p13, l13, K13, m13, e13, b14, p14, l14, K14, m14, e14, rfl, h13, n13, d13, h14, n14, d14⟩ (by decide) true (hold2 HN.out.2.2.2.1 HN.out.2.2.2.2))).mono ?_
        clear S
        rintro e w65 ⟨rfl, S, H⟩
        refine iv8 H n1 n2 n5 n6 n8 n9 n11 n12 ?_; clear n1 n2 n5 n6 n8 n9 n11 n12; intro n1 n2 n5 n6 n8 n9 n11 n12; refine iv4 H n13 n14 n15 n16 ?_; clear n13 n14 n15 n16; intro n13 n14 n15 n16
        clear H; obtain ⟨c6_0, c6_1, c6_2, c6_3, c6_4, c6_5⟩ := S.c6 6 rfl; obtain ⟨c7_0, c7_1, c7_2, c7_3, c7_4, c7_5⟩ := S.c6 7 rfl; go_wp2_with fail; clear c6_0 c6_1 c6_2 c6_3 c6_4 c6_5 c7_0 c7_1 c7_2 c7_3 c7_4 c7_5
        replace S := S.take 5 (L := [(w.heap.size, 29, [.bool b1, .slice p1 l1 K1, .int .i64 e1, .bool b2, .slice p2 l2 K2, .int .i64 e2]), (w.heap.size + 1, 29, [.bool b3, .slice p3 l3 K3, .int .i64 e3, .bool b4, .slice p4 l4 K4, .int .i64 e4]), (gh, 29, [.bool b5, .slice p5 l5 K5, .int .i64 e5, .bool b6, .slice p6 l6 K6, .int .i64 e6]), (gm, 27, [.bool b7, .slice p7 l7 K7, .int .i64 e7]), (gp, 29, [.bool b8, .slice p8 l8 K8, .int .i64 e8, .bool b9, .slice p9 l9 K9, .int .i64 e9])]) rfl
        go_roundw
        case rel => exact .inr (.inr (.inr ⟨rfl, n1, n2, n5, n6, n8, n9, S⟩))
        case measure => simp [intOf]
      ·
        go_wp2_with fail
        exact bodyPost_ret (v := .bool true) (by simp [results, Tryz.f8, go_sem]) rfl (⟨rfl, S.below⟩)
end Go.Proofs.YtcdmojefheipoaaGreatDoor
