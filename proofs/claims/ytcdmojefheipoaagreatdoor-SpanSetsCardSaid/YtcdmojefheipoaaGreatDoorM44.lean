/-
  What the statement stands on.
-/
import Derived.Test.YtcdmojefheipoaaGreatDoorM32
import Derived.Test.YtcdmojefheipoaaGreatDoorM34
import Derived.Test.YtcdmojefheipoaaGreatDoorM43
namespace Go.Proofs.YtcdmojefheipoaaGreatDoor
open Go.RowKit
theorem spraw3 {w W : World} {L : List (Nat × TypeId × List Value)} {b : Nat} {t : TypeId} {b1 b2 b3 b4 b5 b6 : Bool} {p1 p2 p3 p4 p5 p6 : Option Addr} {l1 l2 l3 l4 l5 l6 K1 K2 K3 K4 K5 K6 : Nat} {e1 e2 e3 e4 e5 e6 : Int} {ds1 ds2 ds3 ds4 ds5 ds6 : List Nat}
    (S : St w W L) (i : Nat) (hi : L[i]? = some (b, t, [.bool b1, .slice p1 l1 K1, .int .i64 e1, .bool b2, .slice p2 l2 K2, .int .i64 e2, .bool b3, .slice p3 l3 K3, .int .i64 e3, .bool b4, .slice p4 l4 K4, .int .i64 e4, .bool b5, .slice p5 l5 K5, .int .i64 e5, .bool b6, .slice p6 l6 K6, .int .i64 e6]))
    (h1 : ds1.length = l1) (h2 : ds2.length = l2) (h3 : ds3.length = l3) (h4 : ds4.length = l4) (h5 : ds5.length = l5) (h6 : ds6.length = l6)
    (a1 : At .u32 W p1 K1 ds1) (d1 : Dig 4294967296 ds1) (a2 : At .u32 W p2 K2 ds2) (d2 : Dig 4294967296 ds2) (a3 : At .u32 W p3 K3 ds3) (d3 : Dig 4294967296 ds3) (a4 : At .u32 W p4 K4 ds4) (d4 : Dig 4294967296 ds4) (a5 : At .u32 W p5 K5 ds5) (d5 : Dig 4294967296 ds5) (a6 : At .u32 W p6 K6 ds6) (d6 : Dig 4294967296 ds6) :
    ∀ j, j < 3 → SpAt W b j ([SpR.mk b1 b2 p1 p2 ds1 ds2 K1 K2 e1 e2, SpR.mk b3 b4 p3 p4 ds3 ds4 K3 K4 e3 e4, SpR.mk b5 b6 p5 p6 ds5 ds6 K5 K6 e5 e6].getD j (SpR.mk b1 b2 p1 p2 ds1 ds2 K1 K2 e1 e2)) := by
  subst h1 h2 h3 h4 h5 h6
  intro j hj
  match j, hj with
  | 0, _ => exact ⟨⟨S.c i 0 hi rfl, S.c i 1 hi rfl, S.c i 2 hi rfl, S.c i 3 hi rfl, S.c i 4 hi rfl, S.c i 5 hi rfl⟩, a1, d1, a2, d2⟩
  | 1, _ => exact ⟨⟨S.c i 6 hi rfl, S.c i 7 hi rfl, S.c i 8 hi rfl, S.c i 9 hi rfl, S.c i 10 hi rfl, S.c i 11 hi rfl⟩, a3, d3, a4, d4⟩
  | 2, _ => exact ⟨⟨S.c i 12 hi rfl, S.c i 13 hi rfl, S.c i 14 hi rfl, S.c i 15 hi rfl, S.c i 16 hi rfl, S.c i 17 hi rfl⟩, a5, d5, a6, d6⟩
def hasB (x y z : Rat) : Bool := decide (¬ z < x ∧ ¬ y < z)
theorem hasB_true {x y z : Rat} : hasB x y z = true ↔ x ≤ z ∧ z ≤ y := by unfold hasB; rw [decide_eq_true_eq, Rat.not_lt, Rat.not_lt]
theorem sets_all {x1 x2 x3 x4 z u v m n : Rat} (h1 : x1 ≤ x2) (h2 : x3 ≤ x4) (hu : min2 x1 x3 = u) (hv : max2 x2 x4 = v) (hm : max2 x1 x3 = m) (hn : min2 x2 x4 = n) :
    (decide (¬ x1 < u ∧ ¬ v < x2) = true ∧ decide (¬ x3 < u ∧ ¬ v < x4) = true) ∧ decide (¬ -z < -x2 ∧ ¬ -x1 < -z) = hasB x1 x2 z ∧ (hasB x1 x2 z = true ∨ hasB x3 x4 z = true → decide (¬ z < u ∧ ¬ v < z) = true) ∧
    (n < m → ¬ (hasB x1 x2 z = true ∧ hasB x3 x4 z = true) ∧ (¬ x2 < x3 → x4 < x1)) ∧ (¬ n < m → decide (¬ z < m ∧ ¬ n < z) = (hasB x1 x2 z && hasB x3 x4 z) ∧ decide (¬ m < x1 ∧ ¬ x2 < n) = true ∧ decide (¬ m < x3 ∧ ¬ x4 < n) = true) := by
  have a1 := min2_le x1 x3
  have a2 := max2_ge x2 x4
  have a3 := max2_ge x1 x3
  have a4 := min2_le x2 x4
  have o1 := max2_or x1 x3
  have o2 := min2_or x2 x4
  rw [hu] at a1; rw [hv] at a2; rw [hm] at a3 o1; rw [hn] at a4 o2
  clear hu hv hm hn
  simp only [decide_eq_true_eq, Rat.not_lt, hasB_true]
  refine ⟨⟨⟨a1.1, a2.1⟩, a1.2, a2.2⟩, ?_, ?_, ?_, ?_⟩
  · unfold hasB
    refine decide_eq_decide.2 ?_
    rw [Rat.not_lt, Rat.not_lt]
    constructor
    · intro h; constructor <;> grind
    · intro h; constructor <;> grind
  · rintro (h | h)
    · exact ⟨Rat.le_trans a1.1 h.1, Rat.le_trans h.2 a2.1⟩
    · exact ⟨Rat.le_trans a1.2 h.1, Rat.le_trans h.2 a2.2⟩
  · intro h
    refine ⟨?_, fun k => ?_⟩
    · rintro ⟨k, k'⟩
      rcases o1 with e | e <;> rcases o2 with e' | e' <;> rw [e, e'] at h <;> grind
    · rcases o1 with e | e <;> rcases o2 with e' | e' <;> rw [e, e'] at h <;> grind
  · intro h
    refine ⟨?_, ⟨a3.1, a4.1⟩, a3.2, a4.2⟩
    rw [Bool.eq_iff_iff, Bool.and_eq_true, hasB_true, hasB_true, decide_eq_true_eq]
    constructor
    · intro k; exact ⟨⟨Rat.le_trans a3.1 k.1, Rat.le_trans k.2 a4.1⟩, Rat.le_trans a3.2 k.1, Rat.le_trans k.2 a4.2⟩
    · intro k
      constructor
      · rcases o1 with e | e
        · rw [e]; exact k.1.1
        · rw [e]; exact k.2.1
      · rcases o2 with e | e
        · rw [e]; exact k.1.2
        · rw [e]; exact k.2.2
set_option maxRecDepth 100000 in
set_option maxHeartbeats 16000000 in
theorem spanSets_any (b1 : Bool) (p1 : Option Addr) (K1 : Nat) (ds1 : List Nat) (e1 : Int) (b2 : Bool) (p2 : Option Addr) (K2 : Nat) (ds2 : List Nat) (e2 : Int) (b3 : Bool) (p3 : Option Addr) (K3 : Nat) (ds3 : List Nat) (e3 : Int) (b4 : Bool) (p4 : Option Addr) (K4 : Nat) (ds4 : List Nat) (e4 : Int) (b5 : Bool) (p5 : Option Addr) (K5 : Nat) (ds5 : List Nat) (e5 : Int) (w : World) (hT : Tab w) (at1 : At .u32 w p1 K1 ds1) (dd1 : Dig 4294967296 ds1) (at2 : At .u32 w p2 K2 ds2) (dd2 : Dig 4294967296 ds2) (at3 : At .u32 w p3 K3 ds3) (dd3 : Dig 4294967296 ds3) (at4 : At .u32 w p4 K4 ds4) (dd4 : Dig 4294967296 ds4) (at5 : At .u32 w p5 K5 ds5) (dd5 : Dig 4294967296 ds5) (hb5 : ds5.length * 4 ≤ 140737488355328) :
    Calls Tryz.prog 5 #[.agg #[.bool b1, .slice p1 ds1.length K1, .int .i64 e1, .bool b2, .slice p2 ds2.length K2, .int .i64 e2], .agg #[.bool b3, .slice p3 ds3.length K3, .int .i64 e3, .bool b4, .slice p4 ds4.length K4, .int .i64 e4], .agg #[.bool b5, .slice p5 ds5.length K5, .int .i64 e5]] w fun e w' => e = .returned (.bool true) ∧ Below w.heap.size w w' := by
  have HT := Lib.hid hT
  have HD1 := Lib.hid dd1
  obtain ⟨l1, hl1⟩ : ∃ l, ds1.length = l := ⟨_, rfl⟩
  have HL1 := Lib.hid hl1
  rw [hl1]
  have HD2 := Lib.hid dd2
  obtain ⟨l2, hl2⟩ : ∃ l, ds2.length = l := ⟨_, rfl⟩
  have HL2 := Lib.hid hl2
  rw [hl2]
  have HD3 := Lib.hid dd3
  obtain ⟨l3, hl3⟩ : ∃ l, ds3.length = l := ⟨_, rfl⟩
  have HL3 := Lib.hid hl3
  rw [hl3]
  have HD4 := Lib.hid dd4
  obtain ⟨l4, hl4⟩ : ∃ l, ds4.length = l := ⟨_, rfl⟩
  have HL4 := Lib.hid hl4
  rw [hl4]
  clear hT dd1 hl1 dd2 hl2 dd3 hl3 dd4 hl4
  have HD5 := Lib.hid dd5
  obtain ⟨l5, hl5⟩ : ∃ l, ds5.length = l := ⟨_, rfl⟩
  rw [hl5] at hb5 ⊢
  have HL5 := Lib.hid hl5
  have HB5 := Lib.hid hb5
  clear dd5 hl5 hb5
  have S := (((St.start w).alloc 29 [.bool b1, .slice p1 l1 K1, .int .i64 e1, .bool b2, .slice p2 l2 K2, .int .i64 e2] (w.heap.size)).alloc 29 [.bool b3, .slice p3 l3 K3, .int .i64 e3, .bool b4, .slice p4 l4 K4, .int .i64 e4] (w.heap.size + 1)).alloc 27 [.bool b5, .slice p5 l5 K5, .int .i64 e5] (w.heap.size + 1 + 1)
  try simp only [List.cons_append, List.nil_append] at S
  refine iv5 S.hold at1 at2 at3 at4 at5 ?_; clear at1 at2 at3 at4 at5; intro at1 at2 at3 at4 at5
  have c0_ := S.c6 0 rfl; have c1_ := S.c6 1 rfl; have c2_ := S.c3 2 rfl
  go_enter Tryz.func5, Tryz.ntmps5
  go_wp2_with fail; clear c0_ c1_ c2_
  refine S.cl (between_any _ (HT.out.below S.below)) ?_; clear S; rintro e w1 rfl S H
  refine iv5 H at1 at2 at3 at4 at5 ?_; clear at1 at2 at3 at4 at5; intro at1 at2 at3 at4 at5
  clear H; have c0_ := S.c6 0 rfl; have c1_ := S.c6 1 rfl; have c2_ := S.c3 2 rfl; clear c0_ c1_ c2_; have c0_ := S.c6 0 rfl; have c1_ := S.c6 1 rfl; have c2_ := S.c3 2 rfl
  go_upto_region 3 with fail
  clear c0_ c1_ c2_
  have HH := Hold.drew w1
  refine iv5 HH at1 at2 at3 at4 at5 ?_; clear at1 at2 at3 at4 at5; intro at1 at2 at3 at4 at5
  replace S := S.drew
  refine wp_region_held_drew (S := fun W => W.cell? ⟨w.heap.size, 0, none⟩ = some (.bool b1) ∧ W.cell? ⟨w.heap.size, 1, none⟩ = some (.slice p1 l1 K1) ∧ W.cell? ⟨w.heap.size, 2, none⟩ = some (.int .i64 e1) ∧ W.cell? ⟨w.heap.size, 3, none⟩ = some (.bool b2) ∧ W.cell? ⟨w.heap.size, 4, none⟩ = some (.slice p2 l2 K2) ∧ W.cell? ⟨w.heap.size, 5, none⟩ = some (.int .i64 e2) ∧ W.cell? ⟨w.heap.size + 1, 0, none⟩ = some (.bool b3) ∧ W.cell? ⟨w.heap.size + 1, 1, none⟩ = some (.slice p3 l3 K3) ∧ W.cell? ⟨w.heap.size + 1, 2, none⟩ = some (.int .i64 e3) ∧ W.cell? ⟨w.heap.size + 1, 3, none⟩ = some (.bool b4) ∧ W.cell? ⟨w.heap.size + 1, 4, none⟩ = some (.slice p4 l4 K4) ∧ W.cell? ⟨w.heap.size + 1, 5, none⟩ = some (.int .i64 e4) ∧ W.cell? ⟨w.heap.size + 1 + 1, 0, none⟩ = some (.bool b5) ∧ W.cell? ⟨w.heap.size + 1 + 1, 1, none⟩ = some (.slice p5 l5 K5) ∧ W.cell? ⟨w.heap.size + 1 + 1, 2, none⟩ = some (.int .i64 e5)) (by kernel_rfl) (con6 (S.c6 0 rfl) (con6 (S.c6 1 rfl) (S.c3 2 rfl))) (fun hS => ?_)
  generalize w1.drew = w2 at S at1 at2 at3 at4 at5 HH hS ⊢
  refine tk 0 hS ?_
  refine tk 1 hS ?_
  refine tk 2 hS ?_
  refine rd 3 fun KK hKK => ?_
  go_simp; clear hS
  refine S.cl (spoint_raw at5 HL5.out HB5.out) ?_; clear S; rintro e w3 ⟨p6, K6, p7, K7, rfl, at6, at7⟩ S H
  refine iv6 H at1 at2 at3 at4 at5 HH ?_; clear at1 at2 at3 at4 at5 HH H; intro at1 at2 at3 at4 at5 HH
  go_wp2_with fail
  refine ho hKK (con6 (S.c6 0 rfl) (con6 (S.c6 1 rfl) (S.c3 2 rfl))) fun hS => ?_
  clear hKK KK
  refine rd 4 fun KK hKK => ?_
  go_simp; clear hS
  have H := S.hnew 29 [.bool b1, .slice p1 l1 K1, .int .i64 e1, .bool b2, .slice p2 l2 K2, .int .i64 e2, .bool b3, .slice p3 l3 K3, .int .i64 e3, .bool b4, .slice p4 l4 K4, .int .i64 e4, .bool b5, .slice p6 l5 K6, .int .i64 e5, .bool b5, .slice p7 l5 K7, .int .i64 e5]
  replace S := S.al 29 [.bool b1, .slice p1 l1 K1, .int .i64 e1, .bool b2, .slice p2 l2 K2, .int .i64 e2, .bool b3, .slice p3 l3 K3, .int .i64 e3, .bool b4, .slice p4 l4 K4, .int .i64 e4, .bool b5, .slice p6 l5 K6, .int .i64 e5, .bool b5, .slice p7 l5 K7, .int .i64 e5] (w3.heap.size)
  refine iv8 H at1 at2 at3 at4 at5 at6 at7 HH ?_; clear at1 at2 at3 at4 at5 at6 at7 HH H; intro at1 at2 at3 at4 at5 at6 at7 HH
  refine ho hKK (con6 (S.c6 0 rfl) (con6 (S.c6 1 rfl) (S.c3 2 rfl))) fun hS => ?_
  generalize (w3.alloc (.cells #[.bool b1, .slice p1 l1 K1, .int .i64 e1, .bool b2, .slice p2 l2 K2, .int .i64 e2, .bool b3, .slice p3 l3 K3, .int .i64 e3, .bool b4, .slice p4 l4 K4, .int .i64 e4, .bool b5, .slice p6 l5 K6, .int .i64 e5, .bool b5, .slice p7 l5 K7, .int .i64 e5] 29)) = w4 at S at1 at2 at3 at4 at5 at6 at7 HH hS ⊢
  clear hKK KK
  refine rd 5 fun KK hKK => ?_
  go_simp; clear hS
  refine S.cl (sfit_at _ 3 _ _ (HT.out.below S.below) (S.lt 3 rfl) (by decide) (spraw3 S 3 rfl HL1.out HL2.out HL3.out HL4.out HL5.out HL5.out at1 HD1.out at2 HD2.out at3 HD3.out at4 HD4.out at6 HD5.out at7 HD5.out)) ?_; clear S; rintro e w5 ⟨ok, rfl, hok⟩ S H
  refine iv8 H at1 at2 at3 at4 at5 at6 at7 HH ?_; clear at1 at2 at3 at4 at5 at6 at7 HH H; intro at1 at2 at3 at4 at5 at6 at7 HH
  go_wp2_with fail
  refine ho hKK (con6 (S.c6 0 rfl) (con6 (S.c6 1 rfl) (S.c3 2 rfl))) fun hS => ?_
  clear hKK KK
  refine tk 6 hS ?_
  refine wpAnyH_done (by kernel_rfl) ?_ _
  clear hS HH; clear at6 at7
  cases ok with
  | false =>
    go_wp2_with fail
    exact bodyPost_ret (v := .bool true) (by simp [results, Tryz.f5, go_sem]) rfl (⟨rfl, S.below⟩)
  | true =>
    obtain ⟨t1, t2, t1x⟩ : TriedS ⟨b1, b2, p1, p2, ds1, ds2, K1, K2, e1, e2⟩ := hok.out rfl 0 (by decide)
    obtain ⟨t3, t4, t3x⟩ : TriedS ⟨b3, b4, p3, p4, ds3, ds4, K3, K4, e3, e4⟩ := hok.out rfl 1 (by decide)
    obtain ⟨t5, _, _⟩ : TriedS ⟨b5, b5, p6, p7, ds5, ds5, K6, K7, e5, e5⟩ := hok.out rfl 2 (by decide)
    obtain ⟨x1, hx1⟩ : ∃ x, rawQ b1 ds1 e1 = x := ⟨_, rfl⟩
    obtain ⟨m1, h1, n1, d1⟩ := raw_num hx1 t1 HD1.out HL1.out at1
    obtain ⟨x2, hx2⟩ : ∃ x, rawQ b2 ds2 e2 = x := ⟨_, rfl⟩
    obtain ⟨m2, h2, n2, d2⟩ := raw_num hx2 t2 HD2.out HL2.out at2
    obtain ⟨x3, hx3⟩ : ∃ x, rawQ b3 ds3 e3 = x := ⟨_, rfl⟩
    obtain ⟨m3, h3, n3, d3⟩ := raw_num hx3 t3 HD3.out HL3.out at3
    obtain ⟨x4, hx4⟩ : ∃ x, rawQ b4 ds4 e4 = x := ⟨_, rfl⟩
    obtain ⟨m4, h4, n4, d4⟩ := raw_num hx4 t4 HD4.out HL4.out at4
    obtain ⟨x5, hx5⟩ : ∃ x, rawQ b5 ds5 e5 = x := ⟨_, rfl⟩
    obtain ⟨m5, h5, n5, d5⟩ := raw_num hx5 t5 HD5.out HL5.out at5
    have g1 : x1 ≤ x2 := by rw [← hx1, ← hx2]; exact Rat.not_lt.1 t1x
    have g3 : x3 ≤ x4 := by rw [← hx3, ← hx4]; exact Rat.not_lt.1 t3x
    clear t1 t2 t3 t4 t5 t1x t3x hx1 hx2 hx3 hx4 hx5 hok
    obtain ⟨u, hu⟩ : ∃ q, min2 x1 x3 = q := ⟨_, rfl⟩
    obtain ⟨v, hv⟩ : ∃ q, max2 x2 x4 = q := ⟨_, rfl⟩
    obtain ⟨mm, hm⟩ : ∃ q, max2 x1 x3 = q := ⟨_, rfl⟩
    obtain ⟨nn, hn⟩ : ∃ q, min2 x2 x4 = q := ⟨_, rfl⟩
    have HA := Lib.hid (sets_all (z := x5) g1 g3 hu hv hm hn)
    have HE := Lib.hid (And.intro hu (And.intro hv (And.intro hm hn)))
    clear g1 g3 hu hv hm hn; clear at1 at2 at3 at4 at5
    replace S := S.take 3 (L := [(w.heap.size, 29, [.bool b1, .slice p1 l1 K1, .int .i64 e1, .bool b2, .slice p2 l2 K2, .int .i64 e2]), (w.heap.size + 1, 29, [.bool b3, .slice p3 l3 K3, .int .i64 e3, .bool b4, .slice p4 l4 K4, .int .i64 e4]), (w.heap.size + 1 + 1, 27, [.bool b5, .slice p5 l5 K5, .int .i64 e5])]) rfl
    have c0_ := S.c6 0 rfl; have c1_ := S.c6 1 rfl; go_wp2_with fail; clear c0_ c1_
    refine S.cl (shull_any (L := 200) (H := 520) ⟨b1, p1, l1, K1, m1, e1, b2, p2, l2, K2, m2, e2, rfl, h1, n1, d1, h2, n2, d2⟩ ⟨b3, p3, l3, K3, m3, e3, b4, p4, l4, K4, m4, e4, rfl, h3, n3, d3, h4, n4, d4⟩ (by decide)) ?_; clear S; rintro e w6 ⟨_, rfl, b6, p6, l6, K6, m6, e6, b7, p7, l7, K7, m7, e7, rfl, h6, n6, d6, h7, n7, d7⟩ S H
    refine iv5 H n1 n2 n3 n4 n5 ?_; clear n1 n2 n3 n4 n5; intro n1 n2 n3 n4 n5
    clear H; have c0_ := S.c6 0 rfl; have c1_ := S.c6 1 rfl
    rw [HE.out.1] at d6
    rw [HE.out.2.1] at d7
    have H := S.hnew 29 [.bool b6, .slice p6 l6 K6, .int .i64 e6, .bool b7, .slice p7 l7 K7, .int .i64 e7]
    replace S := S.al 29 [.bool b6, .slice p6 l6 K6, .int .i64 e6, .bool b7, .slice p7 l7 K7, .int .i64 e7] (w6.heap.size)
    refine iv7 H n1 n2 n3 n4 n5 n6 n7 ?_; clear n1 n2 n3 n4 n5 n6 n7; intro n1 n2 n3 n4 n5 n6 n7
    clear H; clear c0_ c1_; have c0_ := S.c6 0 rfl; have c1_ := S.c6 1 rfl
    by_cases hr : nn < mm
    ·
      have HR := Lib.hid (HA.out.2.2.2.1 hr)
      have hr2 : min2 x2 x4 < max2 x1 x3 := by rw [HE.out.2.2.1, HE.out.2.2.2]; exact hr
      have HM := Lib.hid hr2
      clear hr hr2; go_wp2_with fail; clear c0_ c1_
      refine S.cl (smeet_none (L := 200) (H := 520) ⟨b1, p1, l1, K1, m1, e1, b2, p2, l2, K2, m2, e2, rfl, h1, n1, d1, h2, n2, d2⟩ ⟨b3, p3, l3, K3, m3, e3, b4, p4, l4, K4, m4, e4, rfl, h3, n3, d3, h4, n4, d4⟩ (by decide) HM.out) ?_; clear S; rintro e w7 rfl S H
      refine iv7 H n1 n2 n3 n4 n5 n6 n7 ?_; clear n1 n2 n3 n4 n5 n6 n7; intro n1 n2 n3 n4 n5 n6 n7
      clear H; have c0_ := S.c6 0 rfl; have c1_ := S.c6 1 rfl
      have H := S.hnew 29 [.bool false, .slice none 0 0, .int .i64 0, .bool false, .slice none 0 0, .int .i64 0]
      replace S := S.al 29 [.bool false, .slice none 0 0, .int .i64 0, .bool false, .slice none 0 0, .int .i64 0] (w7.heap.size)
      refine iv7 H n1 n2 n3 n4 n5 n6 n7 ?_; clear n1 n2 n3 n4 n5 n6 n7; intro n1 n2 n3 n4 n5 n6 n7
      clear H
      rcases Bool.eq_false_or_eq_true (hasB x1 x2 x5) with hA | hA <;> rcases Bool.eq_false_or_eq_true (hasB x3 x4 x5) with hB | hB
      · exact absurd ⟨hA, hB⟩ HR.out.1
      ·
        have HQ := Lib.hid (And.intro hA hB)
        have HH : Hid (decide (¬ -x5 < -x2 ∧ ¬ -x1 < -x5) = true) := Lib.hid (HA.out.2.1.trans hA)
        have HF := Lib.hid HA.out.1
        have HU := Lib.hid (HA.out.2.2.1 (.inl hA))
        clear hA hB; clear c0_ c1_; have c0_ := S.c6 0 rfl; have c1_ := S.c6 1 rfl; have c2_ := S.c3 2 rfl; have c3_ := S.c6 3 rfl
        go_upto_region 7 with fail
        clear c0_ c1_ c2_ c3_
        replace n1 := n1.hold (Hold.drew _); replace n2 := n2.hold (Hold.drew _); replace n3 := n3.hold (Hold.drew _); replace n4 := n4.hold (Hold.drew _); replace n5 := n5.hold (Hold.drew _); replace n6 := n6.hold (Hold.drew _); replace n7 := n7.hold (Hold.drew _)
        replace S := S.drew
        refine wp_region_held_drew (S := fun W => W.cell? ⟨w.heap.size, 0, none⟩ = some (.bool b1) ∧ W.cell? ⟨w.heap.size, 1, none⟩ = some (.slice p1 l1 K1) ∧ W.cell? ⟨w.heap.size, 2, none⟩ = some (.int .i64 e1) ∧ W.cell? ⟨w.heap.size, 3, none⟩ = some (.bool b2) ∧ W.cell? ⟨w.heap.size, 4, none⟩ = some (.slice p2 l2 K2) ∧ W.cell? ⟨w.heap.size, 5, none⟩ = some (.int .i64 e2) ∧ W.cell? ⟨w.heap.size + 1, 0, none⟩ = some (.bool b3) ∧ W.cell? ⟨w.heap.size + 1, 1, none⟩ = some (.slice p3 l3 K3) ∧ W.cell? ⟨w.heap.size + 1, 2, none⟩ = some (.int .i64 e3) ∧ W.cell? ⟨w.heap.size + 1, 3, none⟩ = some (.bool b4) ∧ W.cell? ⟨w.heap.size + 1, 4, none⟩ = some (.slice p4 l4 K4) ∧ W.cell? ⟨w.heap.size + 1, 5, none⟩ = some (.int .i64 e4) ∧ W.cell? ⟨w.heap.size + 1 + 1, 0, none⟩ = some (.bool b5) ∧ W.cell? ⟨w.heap.size + 1 + 1, 1, none⟩ = some (.slice p5 l5 K5) ∧ W.cell? ⟨w.heap.size + 1 + 1, 2, none⟩ = some (.int .i64 e5) ∧ W.cell? ⟨w6.heap.size, 0, none⟩ = some (.bool b6) ∧ W.cell? ⟨w6.heap.size, 1, none⟩ = some (.slice p6 l6 K6) ∧ W.cell? ⟨w6.heap.size, 2, none⟩ = some (.int .i64 e6) ∧ W.cell? ⟨w6.heap.size, 3, none⟩ = some (.bool b7) ∧ W.cell? ⟨w6.heap.size, 4, none⟩ = some (.slice p7 l7 K7) ∧ W.cell? ⟨w6.heap.size, 5, none⟩ = some (.int .i64 e7)) (by kernel_rfl) (con6 (S.c6 0 rfl) (con6 (S.c6 1 rfl) (con3 (S.c3 2 rfl) (S.c6 3 rfl)))) (fun hS => ?_)
        refine tk 0 hS ?_
        refine tk 1 hS ?_
        refine rd 2 fun KK hKK => ?_
        go_simp
        refine (S.call (sholds_any (L := 200) (H := 520) ⟨b6, p6, l6, K6, m6, e6, b7, p7, l7, K7, m7, e7, rfl, h6, n6, d6, h7, n7, d7⟩ ⟨b1, p1, l1, K1, m1, e1, b2, p2, l2, K2, m2, e2, rfl, h1, n1, d1, h2, n2, d2⟩ (by decide) true HF.out.1)).mono ?_; clear S; rintro e w8 ⟨rfl, S, H⟩; refine iv7 H n1 n2 n3 n4 n5 n6 n7 ?_; clear n1 n2 n3 n4 n5 n6 n7 H; intro n1 n2 n3 n4 n5 n6 n7
        go_wp2_with fail
        refine ho hKK (con6 (S.c6 0 rfl) (con6 (S.c6 1 rfl) (con3 (S.c3 2 rfl) (S.c6 3 rfl)))) fun hS => ?_
        clear hKK KK
        refine tk 3 hS ?_
        refine tk 4 hS ?_
        refine tk 5 hS ?_
        refine tk 6 hS ?_
        refine rd 7 fun KK hKK => ?_
        go_simp
        refine (S.call (sholds_any (L := 200) (H := 520) ⟨b6, p6, l6, K6, m6, e6, b7, p7, l7, K7, m7, e7, rfl, h6, n6, d6, h7, n7, d7⟩ ⟨b3, p3, l3, K3, m3, e3, b4, p4, l4, K4, m4, e4, rfl, h3, n3, d3, h4, n4, d4⟩ (by decide) true HF.out.2)).mono ?_; clear S; rintro e w9 ⟨rfl, S, H⟩; refine iv7 H n1 n2 n3 n4 n5 n6 n7 ?_; clear n1 n2 n3 n4 n5 n6 n7 H; intro n1 n2 n3 n4 n5 n6 n7
        go_wp2_with fail
        refine ho hKK (con6 (S.c6 0 rfl) (con6 (S.c6 1 rfl) (con3 (S.c3 2 rfl) (S.c6 3 rfl)))) fun hS => ?_
        clear hKK KK
        refine tk 8 hS ?_
        refine tk 9 hS ?_
        refine tk 10 hS ?_
        refine tk 11 hS ?_
        refine tk 13 hS ?_
        refine tk 16 hS ?_
        refine tk 17 hS ?_
        refine rd 12 fun KK hKK => ?_
        go_simp
        refine (S.call (sneg_any (L := 200) (H := 520) ⟨b1, p1, l1, K1, m1, e1, b2, p2, l2, K2, m2, e2, rfl, h1, n1, d1, h2, n2, d2⟩ (by decide))).mono ?_; clear S; rintro e w10 ⟨⟨_, rfl, b11, p11, l11, K11, m11, e11, b12, p12, l12, K12, m12, e12, rfl, h11, n11, d11, h12, n12, d12⟩, S, H⟩; refine iv7 H n1 n2 n3 n4 n5 n6 n7 ?_; clear n1 n2 n3 n4 n5 n6 n7 H; intro n1 n2 n3 n4 n5 n6 n7
        go_wp2_with fail
        refine ho hKK (con6 (S.c6 0 rfl) (con6 (S.c6 1 rfl) (con3 (S.c3 2 rfl) (S.c6 3 rfl)))) fun hS => ?_
        clear hKK KK
        refine rd 14 fun KK hKK => ?_
        go_simp
        refine (S.call (dneg_any (L := 200) (H := 520) ⟨b5, p5, l5, K5, m5, e5, rfl, h5, n5, d5⟩ (by decide))).mono ?_; clear S; rintro e w11 ⟨⟨_, rfl, b13, p13, l13, K13, m13, e13, rfl, h13, n13, d13⟩, S, H⟩; refine iv8 H n1 n2 n3 n4 n5 n6 n7 n11 ?_; clear n1 n2 n3 n4 n5 n6 n7 n11; intro n1 n2 n3 n4 n5 n6 n7 n11; replace n12 := n12.hold H; clear H
        go_wp2_with fail
        refine ho hKK (con6 (S.c6 0 rfl) (con6 (S.c6 1 rfl) (con3 (S.c3 2 rfl) (S.c6 3 rfl)))) fun hS => ?_
        clear hKK KK
        refine rd 15 fun KK hKK => ?_
        go_simp
        refine (S.call (shas_any (L := 200) (H := 520) ⟨b11, p11, l11, K11, m11, e11, b12, p12, l12, K12, m12, e12, rfl, h11, n11, d11, h12, n12, d12⟩ ⟨b13, p13, l13, K13, m13, e13, rfl, h13, n13, d13⟩ (by decide) true HH.out)).mono ?_; clear S; rintro e w12 ⟨rfl, S, H⟩; refine iv8 H n1 n2 n3 n4 n5 n6 n7 n11 ?_; clear n1 n2 n3 n4 n5 n6 n7 n11; intro n1 n2 n3 n4 n5 n6 n7 n11; refine iv2 H n12 n13 ?_; clear n12 n13 H; intro n12 n13
        go_wp2_with fail
        refine ho hKK (con6 (S.c6 0 rfl) (con6 (S.c6 1 rfl) (con3 (S.c3 2 rfl) (S.c6 3 rfl)))) fun hS => ?_
        clear hKK KK
        refine rd 18 fun KK hKK => ?_
        go_simp
        refine (S.call (shas_any (L := 200) (H := 520) ⟨b1, p1, l1, K1, m1, e1, b2, p2, l2, K2, m2, e2, rfl, h1, n1, d1, h2, n2, d2⟩ ⟨b5, p5, l5, K5, m5, e5, rfl, h5, n5, d5⟩ (by decide) true HQ.out.1)).mono ?_; clear S; rintro e w13 ⟨rfl, S, H⟩; refine iv8 H n1 n2 n3 n4 n5 n6 n7 n11 ?_; clear n1 n2 n3 n4 n5 n6 n7 n11; intro n1 n2 n3 n4 n5 n6 n7 n11; refine iv2 H n12 n13 ?_; clear n12 n13 H; intro n12 n13
        go_wp2_with fail
        refine ho hKK (con6 (S.c6 0 rfl) (con6 (S.c6 1 rfl) (con3 (S.c3 2 rfl) (S.c6 3 rfl)))) fun hS => ?_
        clear hKK KK
        refine tk 19 hS ?_
        refine tk 20 hS ?_
        refine wpAnyH_done (by kernel_rfl) ?_ _
        clear n11 n12 n13; have c0_ := S.c6 0 rfl; have c2_ := S.c3 2 rfl; go_wp2_with fail
        generalize (.tuple #[.agg #[.bool false, .slice none 0 0, .int .i64 0, .bool false, .slice none 0 0, .int .i64 0], .int .i64 4] : Value) = g1
        clear c0_ c2_
        refine S.cl (shas_any (L := 200) (H := 520) ⟨b1, p1, l1, K1, m1, e1, b2, p2, l2, K2, m2, e2, rfl, h1, n1, d1, h2, n2, d2⟩ ⟨b5, p5, l5, K5, m5, e5, rfl, h5, n5, d5⟩ (by decide) true HQ.out.1) ?_; clear S; rintro e w14 rfl S H
        refine iv7 H n1 n2 n3 n4 n5 n6 n7 ?_; clear n1 n2 n3 n4 n5 n6 n7; intro n1 n2 n3 n4 n5 n6 n7
        clear H; have c0_ := S.c6 0 rfl; have c2_ := S.c3 2 rfl; clear c0_ c2_; have c2_ := S.c3 2 rfl; have c3_ := S.c6 3 rfl; go_wp2_with fail; clear c2_ c3_
        refine S.cl (shas_any (L := 200) (H := 520) ⟨b6, p6, l6, K6, m6, e6, b7, p7, l7, K7, m7, e7, rfl, h6, n6, d6, h7, n7, d7⟩ ⟨b5, p5, l5, K5, m5, e5, rfl, h5, n5, d5⟩ (by decide) true HU.out) ?_; clear S; rintro e w15 rfl S H
        refine iv7 H n1 n2 n3 n4 n5 n6 n7 ?_; clear n1 n2 n3 n4 n5 n6 n7; intro n1 n2 n3 n4 n5 n6 n7
        clear H; have c2_ := S.c3 2 rfl; have c3_ := S.c6 3 rfl; clear c2_ c3_; have c0_ := S.c6 0 rfl; have c2_ := S.c3 2 rfl; go_wp2_with fail; clear c0_ c2_
        refine S.cl (shas_any (L := 200) (H := 520) ⟨b1, p1, l1, K1, m1, e1, b2, p2, l2, K2, m2, e2, rfl, h1, n1, d1, h2, n2, d2⟩ ⟨b5, p5, l5, K5, m5, e5, rfl, h5, n5, d5⟩ (by decide) true HQ.out.1) ?_; clear S; rintro e w16 rfl S H
        refine iv7 H n1 n2 n3 n4 n5 n6 n7 ?_; clear n1 n2 n3 n4 n5 n6 n7; intro n1 n2 n3 n4 n5 n6 n7
        clear H; have c0_ := S.c6 0 rfl; have c2_ := S.c3 2 rfl; clear c0_ c2_; have c1_ := S.c6 1 rfl; have c2_ := S.c3 2 rfl; go_wp2_with fail; clear c1_ c2_
        refine S.cl (shas_any (L := 200) (H := 520) ⟨b3, p3, l3, K3, m3, e3, b4, p4, l4, K4, m4, e4, rfl, h3, n3, d3, h4, n4, d4⟩ ⟨b5, p5, l5, K5, m5, e5, rfl, h5, n5, d5⟩ (by decide) false HQ.out.2) ?_; clear S; rintro e w17 rfl S H
        refine iv7 H n1 n2 n3 n4 n5 n6 n7 ?_; clear n1 n2 n3 n4 n5 n6 n7; intro n1 n2 n3 n4 n5 n6 n7
        clear H; have c1_ := S.c6 1 rfl; have c2_ := S.c3 2 rfl
        by_cases hlt : x2 < x3
        ·
          have HZ := Lib.hid (decide_eq_true hlt)
          clear hlt; clear c1_ c2_; have c0_ := S.c6 0 rfl; have c1_ := S.c6 1 rfl; go_wp2_with fail; clear c0_ c1_
          refine S.cl (dless_any (L := 200) (H := 520) ⟨b2, p2, l2, K2, m2, e2, rfl, h2, n2, d2⟩ ⟨b3, p3, l3, K3, m3, e3, rfl, h3, n3, d3⟩ (by decide) true HZ.out) ?_; clear S; rintro e w18 rfl S H
          refine iv7 H n1 n2 n3 n4 n5 n6 n7 ?_; clear n1 n2 n3 n4 n5 n6 n7; intro n1 n2 n3 n4 n5 n6 n7
          clear H; have c0_ := S.c6 0 rfl; have c1_ := S.c6 1 rfl; go_wp2_with fail
          exact bodyPost_ret (v := .bool true) (by simp [results, Tryz.f5, go_sem]) rfl (⟨rfl, S.below⟩)
        ·
          have HX := Lib.hid (decide_eq_true (HR.out.2 hlt))
          have HZ := Lib.hid (decide_eq_false hlt)
          clear hlt; clear c1_ c2_; have c0_ := S.c6 0 rfl; have c1_ := S.c6 1 rfl; go_wp2_with fail; clear c0_ c1_
          refine S.cl (dless_any (L := 200) (H := 520) ⟨b2, p2, l2, K2, m2, e2, rfl, h2, n2, d2⟩ ⟨b3, p3, l3, K3, m3, e3, rfl, h3, n3, d3⟩ (by decide) false HZ.out) ?_; clear S; rintro e w18 rfl S H
          refine iv7 H n1 n2 n3 n4 n5 n6 n7 ?_; clear n1 n2 n3 n4 n5 n6 n7; intro n1 n2 n3 n4 n5 n6 n7
          clear H; have c0_ := S.c6 0 rfl; have c1_ := S.c6 1 rfl; clear c0_ c1_; have c0_ := S.c6 0 rfl; have c1_ := S.c6 1 rfl; go_wp2_with fail; clear c0_ c1_
          refine S.cl (dless_any (L := 200) (H := 520) ⟨b4, p4, l4, K4, m4, e4, rfl, h4, n4, d4⟩ ⟨b1, p1, l1, K1, m1, e1, rfl, h1, n1, d1⟩ (by decide) true HX.out) ?_; clear S; rintro e w19 rfl S H
          refine iv7 H n1 n2 n3 n4 n5 n6 n7 ?_; clear n1 n2 n3 n4 n5 n6 n7; intro n1 n2 n3 n4 n5 n6 n7
          clear H; have c0_ := S.c6 0 rfl; have c1_ := S.c6 1 rfl; go_wp2_with fail
          exact bodyPost_ret (v := .bool true) (by simp [results, Tryz.f5, go_sem]) rfl (⟨rfl, S.below⟩)
      ·
        have HQ := Lib.hid (And.intro hA hB)
        have HH : Hid (decide (¬ -x5 < -x2 ∧ ¬ -x1 < -x5) = false) := Lib.hid (HA.out.2.1.trans hA)
        have HF := Lib.hid HA.out.1
        have HU := Lib.hid (HA.out.2.2.1 (.inr hB))
        clear hA hB; clear c0_ c1_; have c0_ := S.c6 0 rfl; have c1_ := S.c6 1 rfl; have c2_ := S.c3 2 rfl; have c3_ := S.c6 3 rfl
        go_upto_region 7 with fail
        clear c0_ c1_ c2_ c3_
        replace n1 := n1.hold (Hold.drew _); replace n2 := n2.hold (Hold.drew _); replace n3 := n3.hold (Hold.drew _); replace n4 := n4.hold (Hold.drew _); replace n5 := n5.hold (Hold.drew _); replace n6 := n6.hold (Hold.drew _); replace n7 := n7.hold (Hold.drew _)
        replace S := S.drew
        refine wp_region_held_drew (S := fun W => W.cell? ⟨w.heap.size, 0, none⟩ = some (.bool b1) ∧ W.cell? ⟨w.heap.size, 1, none⟩ = some (.slice p1 l1 K1) ∧ W.cell? ⟨w.heap.size, 2, none⟩ = some (.int .i64 e1) ∧ W.cell? ⟨w.heap.size, 3, none⟩ = some (.bool b2) ∧ W.cell? ⟨w.heap.size, 4, none⟩ = some (.slice p2 l2 K2) ∧ W.cell? ⟨w.heap.size, 5, none⟩ = some (.int .i64 e2) ∧ W.cell? ⟨w.heap.size + 1, 0, none⟩ = some (.bool b3) ∧ W.cell? ⟨w.heap.size + 1, 1, none⟩ = some (.slice p3 l3 K3) ∧ W.cell? ⟨w.heap.size + 1, 2, none⟩ = some (.int .i64 e3) ∧ W.cell? ⟨w.heap.size + 1, 3, none⟩ = some (.bool b4) ∧ W.cell? ⟨w.heap.size + 1, 4, none⟩ = some (.slice p4 l4 K4) ∧ W.cell? ⟨w.heap.size + 1, 5, none⟩ = some (.int .i64 e4) ∧ W.cell? ⟨w.heap.size + 1 + 1, 0, none⟩ = some (.bool b5) ∧ W.cell? ⟨w.heap.size + 1 + 1, 1, none⟩ = some (.slice p5 l5 K5) ∧ W.cell? ⟨w.heap.size + 1 + 1, 2, none⟩ = some (.int .i64 e5) ∧ W.cell? ⟨w6.heap.size, 0, none⟩ = some (.bool b6) ∧ W.cell? ⟨w6.heap.size, 1, none⟩ = some (.slice p6 l6 K6) ∧ W.cell? ⟨w6.heap.size, 2, none⟩ = some (.int .i64 e6) ∧ W.cell? ⟨w6.heap.size, 3, none⟩ = some (.bool b7) ∧ W.cell? ⟨w6.heap.size, 4, none⟩ = some (.slice p7 l7 K7) ∧ W.cell? ⟨w6.heap.size, 5, none⟩ = some (.int .i64 e7)) (by kernel_rfl) (con6 (S.c6 0 rfl) (con6 (S.c6 1 rfl) (con3 (S.c3 2 rfl) (S.c6 3 rfl)))) (fun hS => ?_)
        refine tk 0 hS ?_
        refine tk 1 hS ?_
        refine rd 2 fun KK hKK => ?_
        go_simp
        refine (S.call (sholds_any (L := 200) (H := 520) ⟨b6, p6, l6, K6, m6, e6, b7, p7, l7, K7, m7, e7, rfl, h6, n6, d6, h7, n7, d7⟩ ⟨b1, p1, l1, K1, m1, e1, b2, p2, l2, K2, m2, e2, rfl, h1, n1, d1, h2, n2, d2⟩ (by decide) true HF.out.1)).mono ?_; clear S; rintro e w8 ⟨rfl, S, H⟩; refine iv7 H n1 n2 n3 n4 n5 n6 n7 ?_; clear n1 n2 n3 n4 n5 n6 n7 H; intro n1 n2 n3 n4 n5 n6 n7
        go_wp2_with fail
        refine ho hKK (con6 (S.c6 0 rfl) (con6 (S.c6 1 rfl) (con3 (S.c3 2 rfl) (S.c6 3 rfl)))) fun hS => ?_
        clear hKK KK
        refine tk 3 hS ?_
        refine tk 4 hS ?_
        refine tk 5 hS ?_
        refine tk 6 hS ?_
        refine rd 7 fun KK hKK => ?_
        go_simp
        refine (S.call (sholds_any (L := 200) (H := 520) ⟨b6, p6, l6, K6, m6, e6, b7, p7, l7, K7, m7, e7, rfl, h6, n6, d6, h7, n7, d7⟩ ⟨b3, p3, l3, K3, m3, e3, b4, p4, l4, K4, m4, e4, rfl, h3, n3, d3, h4, n4, d4⟩ (by decide) true HF.out.2)).mono ?_; clear S; rintro e w9 ⟨rfl, S, H⟩; refine iv7 H n1 n2 n3 n4 n5 n6 n7 ?_; clear n1 n2 n3 n4 n5 n6 n7 H; intro n1 n2 n3 n4 n5 n6 n7
        go_wp2_with fail
        refine ho hKK (con6 (S.c6 0 rfl) (con6 (S.c6 1 rfl) (con3 (S.c3 2 rfl) (S.c6 3 rfl)))) fun hS => ?_
        clear hKK KK
        refine tk 8 hS ?_
        refine tk 9 hS ?_
        refine tk 10 hS ?_
        refine tk 11 hS ?_
        refine tk 13 hS ?_
        refine tk 16 hS ?_
        refine tk 17 hS ?_
        refine rd 12 fun KK hKK => ?_
        go_simp
        refine (S.call (sneg_any (L := 200) (H := 520) ⟨b1, p1, l1, K1, m1, e1, b2, p2, l2, K2, m2, e2, rfl, h1, n1, d1, h2, n2, d2⟩ (by decide))).mono ?_; clear S; rintro e w10 ⟨⟨_, rfl, b11, p11, l11, K11, m11, e11, b12, p12, l12, K12, m12, e12, rfl, h11, n11, d11, h12, n12, d12⟩, S, H⟩; refine iv7 H n1 n2 n3 n4 n5 n6 n7 ?_; clear n1 n2 n3 n4 n5 n6 n7 H; intro n1 n2 n3 n4 n5 n6 n7
        go_wp2_with fail
        refine ho hKK (con6 (S.c6 0 rfl) (con6 (S.c6 1 rfl) (con3 (S.c3 2 rfl) (S.c6 3 rfl)))) fun hS => ?_
        clear hKK KK
        refine rd 14 fun KK hKK => ?_
        go_simp
        refine (S.call (dneg_any (L := 200) (H := 520) ⟨b5, p5, l5, K5, m5, e5, rfl, h5, n5, d5⟩ (by decide))).mono ?_; clear S; rintro e w11 ⟨⟨_, rfl, b13, p13, l13, K13, m13, e13, rfl, h13, n13, d13⟩, S, H⟩; refine iv8 H n1 n2 n3 n4 n5 n6 n7 n11 ?_; clear n1 n2 n3 n4 n5 n6 n7 n11; intro n1 n2 n3 n4 n5 n6 n7 n11; replace n12 := n12.hold H; clear H
        go_wp2_with fail
        refine ho hKK (con6 (S.c6 0 rfl) (con6 (S.c6 1 rfl) (con3 (S.c3 2 rfl) (S.c6 3 rfl)))) fun hS => ?_
        clear hKK KK
        refine rd 15 fun KK hKK => ?_
        go_simp
        refine (S.call (shas_any (L := 200) (H := 520) ⟨b11, p11, l11, K11, m11, e11, b12, p12, l12, K12, m12, e12, rfl, h11, n11, d11, h12, n12, d12⟩ ⟨b13, p13, l13, K13, m13, e13, rfl, h13, n13, d13⟩ (by decide) false HH.out)).mono ?_; clear S; rintro e w12 ⟨rfl, S, H⟩; refine iv8 H n1 n2 n3 n4 n5 n6 n7 n11 ?_; clear n1 n2 n3 n4 n5 n6 n7 n11; intro n1 n2 n3 n4 n5 n6 n7 n11; refine iv2 H n12 n13 ?_; clear n12 n13 H; intro n12 n13
        go_wp2_with fail
        refine ho hKK (con6 (S.c6 0 rfl) (con6 (S.c6 1 rfl) (con3 (S.c3 2 rfl) (S.c6 3 rfl)))) fun hS => ?_
        clear hKK KK
        refine rd 18 fun KK hKK => ?_
        go_simp
        refine (S.call (shas_any (L := 200) (H := 520) ⟨b1, p1, l1, K1, m1, e1, b2, p2, l2, K2, m2, e2, rfl, h1, n1, d1, h2, n2, d2⟩ ⟨b5, p5, l5, K5, m5, e5, rfl, h5, n5, d5⟩ (by decide) false HQ.out.1)).mono ?_; clear S; rintro e w13 ⟨rfl, S, H⟩; refine iv8 H n1 n2 n3 n4 n5 n6 n7 n11 ?_; clear n1 n2 n3 n4 n5 n6 n7 n11; intro n1 n2 n3 n4 n5 n6 n7 n11; refine iv2 H n12 n13 ?_; clear n12 n13 H; intro n12 n13
        go_wp2_with fail
        refine ho hKK (con6 (S.c6 0 rfl) (con6 (S.c6 1 rfl) (con3 (S.c3 2 rfl) (S.c6 3 rfl)))) fun hS => ?_
        clear hKK KK
        refine tk 19 hS ?_
        refine tk 20 hS ?_
        refine wpAnyH_done (by kernel_rfl) ?_ _
        clear n11 n12 n13; have c0_ := S.c6 0 rfl; have c2_ := S.c3 2 rfl; go_wp2_with fail
        generalize (.tuple #[.agg #[.bool false, .slice none 0 0, .int .i64 0, .bool false, .slice none 0 0, .int .i64 0], .int .i64 4] : Value) = g1
        clear c0_ c2_
        refine S.cl (shas_any (L := 200) (H := 520) ⟨b1, p1, l1, K1, m1, e1, b2, p2, l2, K2, m2, e2, rfl, h1, n1, d1, h2, n2, d2⟩ ⟨b5, p5, l5, K5, m5, e5, rfl, h5, n5, d5⟩ (by decide) false HQ.out.1) ?_; clear S; rintro e w14 rfl S H
        refine iv7 H n1 n2 n3 n4 n5 n6 n7 ?_; clear n1 n2 n3 n4 n5 n6 n7; intro n1 n2 n3 n4 n5 n6 n7
        clear H; have c0_ := S.c6 0 rfl; have c2_ := S.c3 2 rfl; clear c0_ c2_; have c1_ := S.c6 1 rfl; have c2_ := S.c3 2 rfl; go_wp2_with fail; clear c1_ c2_
        refine S.cl (shas_any (L := 200) (H := 520) ⟨b3, p3, l3, K3, m3, e3, b4, p4, l4, K4, m4, e4, rfl, h3, n3, d3, h4, n4, d4⟩ ⟨b5, p5, l5, K5, m5, e5, rfl, h5, n5, d5⟩ (by decide) true HQ.out.2) ?_; clear S; rintro e w15 rfl S H
        refine iv7 H n1 n2 n3 n4 n5 n6 n7 ?_; clear n1 n2 n3 n4 n5 n6 n7; intro n1 n2 n3 n4 n5 n6 n7
        clear H; have c1_ := S.c6 1 rfl; have c2_ := S.c3 2 rfl; clear c1_ c2_; have c2_ := S.c3 2 rfl; have c3_ := S.c6 3 rfl; go_wp2_with fail; clear c2_ c3_
        refine S.cl (shas_any (L := 200) (H := 520) ⟨b6, p6, l6, K6, m6, e6, b7, p7, l7, K7, m7, e7, rfl, h6, n6, d6, h7, n7, d7⟩ ⟨b5, p5, l5, K5, m5, e5, rfl, h5, n5, d5⟩ (by decide) true HU.out) ?_; clear S; rintro e w16 rfl S H
        refine iv7 H n1 n2 n3 n4 n5 n6 n7 ?_; clear n1 n2 n3 n4 n5 n6 n7; intro n1 n2 n3 n4 n5 n6 n7
        clear H; have c2_ := S.c3 2 rfl; have c3_ := S.c6 3 rfl; clear c2_ c3_; have c0_ := S.c6 0 rfl; have c2_ := S.c3 2 rfl; go_wp2_with fail; clear c0_ c2_
        refine S.cl (shas_any (L := 200) (H := 520) ⟨b1, p1, l1, K1, m1, e1, b2, p2, l2, K2, m2, e2, rfl, h1, n1, d1, h2, n2, d2⟩ ⟨b5, p5, l5, K5, m5, e5, rfl, h5, n5, d5⟩ (by decide) false HQ.out.1) ?_; clear S; rintro e w17 rfl S H
        refine iv7 H n1 n2 n3 n4 n5 n6 n7 ?_; clear n1 n2 n3 n4 n5 n6 n7; intro n1 n2 n3 n4 n5 n6 n7
        clear H; have c0_ := S.c6 0 rfl; have c2_ := S.c3 2 rfl
        by_cases hlt : x2 < x3
        ·
          have HZ := Lib.hid (decide_eq_true hlt)
          clear hlt; clear c0_ c2_; have c0_ := S.c6 0 rfl; have c1_ := S.c6 1 rfl; go_wp2_with fail; clear c0_ c1_
          refine S.cl (dless_any (L := 200) (H := 520) ⟨b2, p2, l2, K2, m2, e2, rfl, h2, n2, d2⟩ ⟨b3, p3, l3, K3, m3, e3, rfl, h3, n3, d3⟩ (by decide) true HZ.out) ?_; clear S; rintro e w18 rfl S H
          refine iv7 H n1 n2 n3 n4 n5 n6 n7 ?_; clear n1 n2 n3 n4 n5 n6 n7; intro n1 n2 n3 n4 n5 n6 n7
          clear H; have c0_ := S.c6 0 rfl; have c1_ := S.c6 1 rfl; go_wp2_with fail
          exact bodyPost_ret (v := .bool true) (by simp [results, Tryz.f5, go_sem]) rfl (⟨rfl, S.below⟩)
        ·
          have HX := Lib.hid (decide_eq_true (HR.out.2 hlt))
          have HZ := Lib.hid (decide_eq_false hlt)
          clear hlt; clear c0_ c2_; have c0_ := S.c6 0 rfl; have c1_ := S.c6 1 rfl; go_wp2_with fail; clear c0_ c1_
          refine S.cl (dless_any (L := 200) (H := 520) ⟨b2, p2, l2, K2, m2, e2, rfl, h2, n2, d2⟩ ⟨b3, p3, l3, K3, m3, e3, rfl, h3, n3, d3⟩ (by decide) false HZ.out) ?_; clear S; rintro e w18 rfl S H
          refine iv7 H n1 n2 n3 n4 n5 n6 n7 ?_; clear n1 n2 n3 n4 n5 n6 n7; intro n1 n2 n3 n4 n5 n6 n7
          clear H; have c0_ := S.c6 0 rfl; have c1_ := S.c6 1 rfl; clear c0_ c1_; have c0_ := S.c6 0 rfl; have c1_ := S.c6 1 rfl; go_wp2_with fail; clear c0_ c1_
          refine S.cl (dless_any (L := 200) (H := 520) ⟨b4, p4, l4, K4, m4, e4, rfl, h4, n4, d4⟩ ⟨b1, p1, l1, K1, m1, e1, rfl, h1, n1, d1⟩ (by decide) true HX.out) ?_; clear S; rintro e w19 rfl S H
          refine iv7 H n1 n2 n3 n4 n5 n6 n7 ?_; clear n1 n2 n3 n4 n5 n6 n7; intro n1 n2 n3 n4 n5 n6 n7
          clear H; have c0_ := S.c6 0 rfl; have c1_ := S.c6 1 rfl; go_wp2_with fail
          exact bodyPost_ret (v := .bool true) (by simp [results, Tryz.f5, go_sem]) rfl (⟨rfl, S.below⟩)
      ·
        have HQ := Lib.hid (And.intro hA hB)
        have HH : Hid (decide (¬ -x5 < -x2 ∧ ¬ -x1 < -x5) = false) := Lib.hid (HA.out.2.1.trans hA)
        have HF := Lib.hid HA.out.1
        clear hA hB; clear c0_ c1_; have c0_ := S.c6 0 rfl; have c1_ := S.c6 1 rfl; have c2_ := S.c3 2 rfl; have c3_ := S.c6 3 rfl
        go_upto_region 7 with fail
        clear c0_ c1_ c2_ c3_
        replace n1 := n1.hold (Hold.drew _); replace n2 := n2.hold (Hold.drew _); replace n3 := n3.hold (Hold.drew _); replace n4 := n4.hold (Hold.drew _); replace n5 := n5.hold (Hold.drew _); replace n6 := n6.hold (Hold.drew _); replace n7 := n7.hold (Hold.drew _)
        replace S := S.drew
        refine wp_region_held_drew (S := fun W => W.cell? ⟨w.heap.size, 0, none⟩ = some (.bool b1) ∧ W.cell? ⟨w.heap.size, 1, none⟩ = some (.slice p1 l1 K1) ∧ W.cell? ⟨w.heap.size, 2, none⟩ = some (.int .i64 e1) ∧ W.cell? ⟨w.heap.size, 3, none⟩ = some (.bool b2) ∧ W.cell? ⟨w.heap.size, 4, none⟩ = some (.slice p2 l2 K2) ∧ W.cell? ⟨w.heap.size, 5, none⟩ = some (.int .i64 e2) ∧ W.cell? ⟨w.heap.size + 1, 0, none⟩ = some (.bool b3) ∧ W.cell? ⟨w.heap.size + 1, 1, none⟩ = some (.slice p3 l3 K3) ∧ W.cell? ⟨w.heap.size + 1, 2, none⟩ = some (.int .i64 e3) ∧ W.cell? ⟨w.heap.size + 1, 3, none⟩ = some (.bool b4) ∧ W.cell? ⟨w.heap.size + 1, 4, none⟩ = some (.slice p4 l4 K4) ∧ W.cell? ⟨w.heap.size + 1, 5, none⟩ = some (.int .i64 e4) ∧ W.cell? ⟨w.heap.size + 1 + 1, 0, none⟩ = some (.bool b5) ∧ W.cell? ⟨w.heap.size + 1 + 1, 1, none⟩ = some (.slice p5 l5 K5) ∧ W.cell? ⟨w.heap.size + 1 + 1, 2, none⟩ = some (.int .i64 e5) ∧ W.cell? ⟨w6.heap.size, 0, none⟩ = some (.bool b6) ∧ W.cell? ⟨w6.heap.size, 1, none⟩ = some (.slice p6 l6 K6) ∧ W.cell? ⟨w6.heap.size, 2, none⟩ = some (.int .i64 e6) ∧ W.cell? ⟨w6.heap.size, 3, none⟩ = some (.bool b7) ∧ W.cell? ⟨w6.heap.size, 4, none⟩ = some (.slice p7 l7 K7) ∧ W.cell? ⟨w6.heap.size, 5, none⟩ = some (.int .i64 e7)) (by kernel_rfl) (con6 (S.c6 0 rfl) (con6 (S.c6 1 rfl) (con3 (S.c3 2 rfl) (S.c6 3 rfl)))) (fun hS => ?_)
        refine tk 0 hS ?_
        refine tk 1 hS ?_
        refine rd 2 fun KK hKK => ?_
        go_simp
        refine (S.call (sholds_any (L := 200) (H := 520) ⟨b6, p6, l6, K6, m6, e6, b7, p7, l7, K7, m7, e7, rfl, h6, n6, d6, h7, n7, d7⟩ ⟨b1, p1, l1, K1, m1, e1, b2, p2, l2, K2, m2, e2, rfl, h1, n1, d1, h2, n2, d2⟩ (by decide) true HF.out.1)).mono ?_; clear S; rintro e w8 ⟨rfl, S, H⟩; refine iv7 H n1 n2 n3 n4 n5 n6 n7 ?_; clear n1 n2 n3 n4 n5 n6 n7 H; intro n1 n2 n3 n4 n5 n6 n7
        go_wp2_with fail
        refine ho hKK (con6 (S.c6 0 rfl) (con6 (S.c6 1 rfl) (con3 (S.c3 2 rfl) (S.c6 3 rfl)))) fun hS => ?_
        clear hKK KK
        refine tk 3 hS ?_
        refine tk 4 hS ?_
        refine tk 5 hS ?_
        refine tk 6 hS ?_
        refine rd 7 fun KK hKK => ?_
        go_simp
        refine (S.call (sholds_any (L := 200) (H := 520) ⟨b6, p6, l6, K6, m6, e6, b7, p7, l7, K7, m7, e7, rfl, h6, n6, d6, h7, n7, d7⟩ ⟨b3, p3, l3, K3, m3, e3, b4, p4, l4, K4, m4, e4, rfl, h3, n3, d3, h4, n4, d4⟩ (by decide) true HF.out.2)).mono ?_; clear S; rintro e w9 ⟨rfl, S, H⟩; refine iv7 H n1 n2 n3 n4 n5 n6 n7 ?_; clear n1 n2 n3 n4 n5 n6 n7 H; intro n1 n2 n3 n4 n5 n6 n7
        go_wp2_with fail
        refine ho hKK (con6 (S.c6 0 rfl) (con6 (S.c6 1 rfl) (con3 (S.c3 2 rfl) (S.c6 3 rfl)))) fun hS => ?_
        clear hKK KK
        refine tk 8 hS ?_
        refine tk 9 hS ?_
        refine tk 10 hS ?_
        refine tk 11 hS ?_
        refine tk 13 hS ?_
        refine tk 16 hS ?_
        refine tk 17 hS ?_
        refine rd 12 fun KK hKK => ?_
        go_simp
        refine (S.call (sneg_any (L := 200) (H := 520) ⟨b1, p1, l1, K1, m1, e1, b2, p2, l2, K2, m2, e2, rfl, h1, n1, d1, h2, n2, d2⟩ (by decide))).mono ?_; clear S; rintro e w10 ⟨⟨_, rfl, b11, p11, l11, K11, m11, e11, b12, p12, l12, K12, m12, e12, rfl, h11, n11, d11, h12, n12, d12⟩, S, H⟩; refine iv7 H n1 n2 n3 n4 n5 n6 n7 ?_; clear n1 n2 n3 n4 n5 n6 n7 H; intro n1 n2 n3 n4 n5 n6 n7
        go_wp2_with fail
        refine ho hKK (con6 (S.c6 0 rfl) (con6 (S.c6 1 rfl) (con3 (S.c3 2 rfl) (S.c6 3 rfl)))) fun hS => ?_
        clear hKK KK
        refine rd 14 fun KK hKK => ?_
        go_simp
        refine (S.call (dneg_any (L := 200) (H := 520) ⟨b5, p5, l5, K5, m5, e5, rfl, h5, n5, d5⟩ (by decide))).mono ?_; clear S; rintro e w11 ⟨⟨_, rfl, b13, p13, l13, K13, m13, e13, rfl, h13, n13, d13⟩, S, H⟩; refine iv8 H n1 n2 n3 n4 n5 n6 n7 n11 ?_; clear n1 n2 n3 n4 n5 n6 n7 n11; intro n1 n2 n3 n4 n5 n6 n7 n11; replace n12 := n12.hold H; clear H
        go_wp2_with fail
        refine ho hKK (con6 (S.c6 0 rfl) (con6 (S.c6 1 rfl) (con3 (S.c3 2 rfl) (S.c6 3 rfl)))) fun hS => ?_
        clear hKK KK
        refine rd 15 fun KK hKK => ?_
        go_simp
        refine (S.call (shas_any (L := 200) (H := 520) ⟨b11, p11, l11, K11, m11, e11, b12, p12, l12, K12, m12, e12, rfl, h11, n11, d11, h12, n12, d12⟩ ⟨b13, p13, l13, K13, m13, e13, rfl, h13, n13, d13⟩ (by decide) false HH.out)).mono ?_; clear S; rintro e w12 ⟨rfl, S, H⟩; refine iv8 H n1 n2 n3 n4 n5 n6 n7 n11 ?_; clear n1 n2 n3 n4 n5 n6 n7 n11; intro n1 n2 n3 n4 n5 n6 n7 n11; refine iv2 H n12 n13 ?_; clear n12 n13 H; intro n12 n13
        go_wp2_with fail
        refine ho hKK (con6 (S.c6 0 rfl) (con6 (S.c6 1 rfl) (con3 (S.c3 2 rfl) (S.c6 3 rfl)))) fun hS => ?_
        clear hKK KK
        refine rd 18 fun KK hKK => ?_
        go_simp
        refine (S.call (shas_any (L := 200) (H := 520) ⟨b1, p1, l1, K1, m1, e1, b2, p2, l2, K2, m2, e2, rfl, h1, n1, d1, h2, n2, d2⟩ ⟨b5, p5, l5, K5, m5, e5, rfl, h5, n5, d5⟩ (by decide) false HQ.out.1)).mono ?_; clear S; rintro e w13 ⟨rfl, S, H⟩; refine iv8 H n1 n2 n3 n4 n5 n6 n7 n11 ?_; clear n1 n2 n3 n4 n5 n6 n7 n11; intro n1 n2 n3 n4 n5 n6 n7 n11; refine iv2 H n12 n13 ?_; clear n12 n13 H; intro n12 n13
        go_wp2_with fail
        refine ho hKK (con6 (S.c6 0 rfl) (con6 (S.c6 1 rfl) (con3 (S.c3 2 rfl) (S.c6 3 rfl)))) fun hS => ?_
        clear hKK KK
        refine tk 19 hS ?_
        refine tk 20 hS ?_
        refine wpAnyH_done (by kernel_rfl) ?_ _
        clear n11 n12 n13; have c0_ := S.c6 0 rfl; have c2_ := S.c3 2 rfl; go_wp2_with fail
        generalize (.tuple #[.agg #[.bool false, .slice none 0 0, .int .i64 0, .bool false, .slice none 0 0, .int .i64 0], .int .i64 4] : Value) = g1
        clear c0_ c2_
        refine S.cl (shas_any (L := 200) (H := 520) ⟨b1, p1, l1, K1, m1, e1, b2, p2, l2, K2, m2, e2, rfl, h1, n1, d1, h2, n2, d2⟩ ⟨b5, p5, l5, K5, m5, e5, rfl, h5, n5, d5⟩ (by decide) false HQ.out.1) ?_; clear S; rintro e w14 rfl S H
        refine iv7 H n1 n2 n3 n4 n5 n6 n7 ?_; clear n1 n2 n3 n4 n5 n6 n7; intro n1 n2 n3 n4 n5 n6 n7
        clear H; have c0_ := S.c6 0 rfl; have c2_ := S.c3 2 rfl; clear c0_ c2_; have c1_ := S.c6 1 rfl; have c2_ := S.c3 2 rfl; go_wp2_with fail; clear c1_ c2_
        refine S.cl (shas_any (L := 200) (H := 520) ⟨b3, p3, l3, K3, m3, e3, b4, p4, l4, K4, m4, e4, rfl, h3, n3, d3, h4, n4, d4⟩ ⟨b5, p5, l5, K5, m5, e5, rfl, h5, n5, d5⟩ (by decide) false HQ.out.2) ?_; clear S; rintro e w15 rfl S H
        refine iv7 H n1 n2 n3 n4 n5 n6 n7 ?_; clear n1 n2 n3 n4 n5 n6 n7; intro n1 n2 n3 n4 n5 n6 n7
        clear H; have c1_ := S.c6 1 rfl; have c2_ := S.c3 2 rfl; clear c1_ c2_; have c0_ := S.c6 0 rfl; have c2_ := S.c3 2 rfl; go_wp2_with fail; clear c0_ c2_
        refine S.cl (shas_any (L := 200) (H := 520) ⟨b1, p1, l1, K1, m1, e1, b2, p2, l2, K2, m2, e2, rfl, h1, n1, d1, h2, n2, d2⟩ ⟨b5, p5, l5, K5, m5, e5, rfl, h5, n5, d5⟩ (by decide) false HQ.out.1) ?_; clear S; rintro e w16 rfl S H
        refine iv7 H n1 n2 n3 n4 n5 n6 n7 ?_; clear n1 n2 n3 n4 n5 n6 n7; intro n1 n2 n3 n4 n5 n6 n7
        clear H; have c0_ := S.c6 0 rfl; have c2_ := S.c3 2 rfl
        by_cases hlt : x2 < x3
        ·
          have HZ := Lib.hid (decide_eq_true hlt)
          clear hlt; clear c0_ c2_; have c0_ := S.c6 0 rfl; have c1_ := S.c6 1 rfl; go_wp2_with fail; clear c0_ c1_
          refine S.cl (dless_any (L := 200) (H := 520) ⟨b2, p2, l2, K2, m2, e2, rfl, h2, n2, d2⟩ ⟨b3, p3, l3, K3, m3, e3, rfl, h3, n3, d3⟩ (by decide) true HZ.out) ?_; clear S; rintro e w17 rfl S H
          refine iv7 H n1 n2 n3 n4 n5 n6 n7 ?_; clear n1 n2 n3 n4 n5 n6 n7; intro n1 n2 n3 n4 n5 n6 n7
          clear H; have c0_ := S.c6 0 rfl; have c1_ := S.c6 1 rfl; go_wp2_with fail
          exact bodyPost_ret (v := .bool true) (by simp [results, Tryz.f5, go_sem]) rfl (⟨rfl, S.below⟩)
        ·
          have HX := Lib.hid (decide_eq_true (HR.out.2 hlt))
          have HZ := Lib.hid (decide_eq_false hlt)
          clear hlt; clear c0_ c2_; have c0_ := S.c6 0 rfl; have c1_ := S.c6 1 rfl; go_wp2_with fail; clear c0_ c1_
          refine S.cl (dless_any (L := 200) (H := 520) ⟨b2, p2, l2, K2, m2, e2, rfl, h2, n2, d2⟩ ⟨b3, p3, l3, K3, m3, e3, rfl, h3, n3, d3⟩ (by decide) false HZ.out) ?_; clear S; rintro e w17 rfl S H
          refine iv7 H n1 n2 n3 n4 n5 n6 n7 ?_; clear n1 n2 n3 n4 n5 n6 n7; intro n1 n2 n3 n4 n5 n6 n7
          clear H; have c0_ := S.c6 0 rfl; have c1_ := S.c6 1 rfl; clear c0_ c1_; have c0_ := S.c6 0 rfl; have c1_ := S.c6 1 rfl; go_wp2_with fail; clear c0_ c1_
          refine S.cl (dless_any (L := 200) (H := 520) ⟨b4, p4, l4, K4, m4, e4, rfl, h4, n4, d4⟩ ⟨b1, p1, l1, K1, m1, e1, rfl, h1, n1, d1⟩ (by decide) true HX.out) ?_; clear S; rintro e w18 rfl S H
          refine iv7 H n1 n2 n3 n4 n5 n6 n7 ?_; clear n1 n2 n3 n4 n5 n6 n7; intro n1 n2 n3 n4 n5 n6 n7
          clear H; have c0_ := S.c6 0 rfl; have c1_ := S.c6 1 rfl; go_wp2_with fail
          exact bodyPost_ret (v := .bool true) (by simp [results, Tryz.f5, go_sem]) rfl (⟨rfl, S.below⟩)
    ·
      have HR := Lib.hid (HA.out.2.2.2.2 hr)
      have hr2 : ¬ min2 x2 x4 < max2 x1 x3 := by rw [HE.out.2.2.1, HE.out.2.2.2]; exact hr
      have HM := Lib.hid hr2
      clear hr hr2; go_wp2_with fail; clear c0_ c1_
      refine S.cl (smeet_any (L := 200) (H := 520) ⟨b1, p1, l1, K1, m1, e1, b2, p2, l2, K2, m2, e2, rfl, h1, n1, d1, h2, n2, d2⟩ ⟨b3, p3, l3, K3, m3, e3, b4, p4, l4, K4, m4, e4, rfl, h3, n3, d3, h4, n4, d4⟩ (by decide) HM.out) ?_; clear S; rintro e w7 ⟨_, rfl, b8, p8, l8, K8, m8, e8, b9, p9, l9, K9, m9, e9, rfl, h8, n8, d8, h9, n9, d9⟩ S H
      refine iv7 H n1 n2 n3 n4 n5 n6 n7 ?_; clear n1 n2 n3 n4 n5 n6 n7; intro n1 n2 n3 n4 n5 n6 n7
      clear H; have c0_ := S.c6 0 rfl; have c1_ := S.c6 1 rfl
      rw [HE.out.2.2.1] at d8
      rw [HE.out.2.2.2] at d9
      have H := S.hnew 29 [.bool b8, .slice p8 l8 K8, .int .i64 e8, .bool b9, .slice p9 l9 K9, .int .i64 e9]
      replace S := S.al 29 [.bool b8, .slice p8 l8 K8, .int .i64 e8, .bool b9, .slice p9 l9 K9, .int .i64 e9] (w7.heap.size)
      refine iv8 H n1 n2 n3 n4 n5 n6 n7 n8 ?_; clear n1 n2 n3 n4 n5 n6 n7 n8; intro n1 n2 n3 n4 n5 n6 n7 n8; replace n9 := n9.hold H
      clear H
      rcases Bool.eq_false_or_eq_true (hasB x1 x2 x5) with hA | hA <;> rcases Bool.eq_false_or_eq_true (hasB x3 x4 x5) with hB | hB
      ·
        have HQ := Lib.hid (And.intro hA hB)
        have HH : Hid (decide (¬ -x5 < -x2 ∧ ¬ -x1 < -x5) = true) := Lib.hid (HA.out.2.1.trans hA)
        have HF := Lib.hid HA.out.1
        have HC := Lib.hid (show decide (¬ x5 < mm ∧ ¬ nn < x5) = true from HR.out.1.trans (by rw [HQ.out.1, HQ.out.2]; rfl))
        have HV := Lib.hid HR.out.2
        have HU := Lib.hid (HA.out.2.2.1 (.inl hA))
        clear hA hB; clear c0_ c1_; have c0_ := S.c6 0 rfl; have c1_ := S.c6 1 rfl; have c2_ := S.c3 2 rfl; have c3_ := S.c6 3 rfl
        go_upto_region 7 with fail
        clear c0_ c1_ c2_ c3_
        replace n1 := n1.hold (Hold.drew _); replace n2 := n2.hold (Hold.drew _); replace n3 := n3.hold (Hold.drew _); replace n4 := n4.hold (Hold.drew _); replace n5 := n5.hold (Hold.drew _); replace n6 := n6.hold (Hold.drew _); replace n7 := n7.hold (Hold.drew _); replace n8 := n8.hold (Hold.drew _); replace n9 := n9.hold (Hold.drew _)
        replace S := S.drew
        refine wp_region_held_drew (S := fun W => W.cell? ⟨w.heap.size, 0, none⟩ = some (.bool b1) ∧ W.cell? ⟨w.heap.size, 1, none⟩ = some (.slice p1 l1 K1) ∧ W.cell? ⟨w.heap.size, 2, none⟩ = some (.int .i64 e1) ∧ W.cell? ⟨w.heap.size, 3, none⟩ = some (.bool b2) ∧ W.cell? ⟨w.heap.size, 4, none⟩ = some (.slice p2 l2 K2) ∧ W.cell? ⟨w.heap.size, 5, none⟩ = some (.int .i64 e2) ∧ W.cell? ⟨w.heap.size + 1, 0, none⟩ = some (.bool b3) ∧ W.cell? ⟨w.heap.size + 1, 1, none⟩ = some (.slice p3 l3 K3) ∧ W.cell? ⟨w.heap.size + 1, 2, none⟩ = some (.int .i64 e3) ∧ W.cell? ⟨w.heap.size + 1, 3, none⟩ = some (.bool b4) ∧ W.cell? ⟨w.heap.size + 1, 4, none⟩ = some (.slice p4 l4 K4) ∧ W.cell? ⟨w.heap.size + 1, 5, none⟩ = some (.int .i64 e4) ∧ W.cell? ⟨w.heap.size + 1 + 1, 0, none⟩ = some (.bool b5) ∧ W.cell? ⟨w.heap.size + 1 + 1, 1, none⟩ = some (.slice p5 l5 K5) ∧ W.cell? ⟨w.heap.size + 1 + 1, 2, none⟩ = some (.int .i64 e5) ∧ W.cell? ⟨w6.heap.size, 0, none⟩ = some (.bool b6) ∧ W.cell? ⟨w6.heap.size, 1, none⟩ = some (.slice p6 l6 K6) ∧ W.cell? ⟨w6.heap.size, 2, none⟩ = some (.int .i64 e6) ∧ W.cell? ⟨w6.heap.size, 3, none⟩ = some (.bool b7) ∧ W.cell? ⟨w6.heap.size, 4, none⟩ = some (.slice p7 l7 K7) ∧ W.cell? ⟨w6.heap.size, 5, none⟩ = some (.int .i64 e7)) (by kernel_rfl) (con6 (S.c6 0 rfl) (con6 (S.c6 1 rfl) (con3 (S.c3 2 rfl) (S.c6 3 rfl)))) (fun hS => ?_)
        refine tk 0 hS ?_
        refine tk 1 hS ?_
        refine rd 2 fun KK hKK => ?_
        go_simp
        refine (S.call (sholds_any (L := 200) (H := 520) ⟨b6, p6, l6, K6, m6, e6, b7, p7, l7, K7, m7, e7, rfl, h6, n6, d6, h7, n7, d7⟩ ⟨b1, p1, l1, K1, m1, e1, b2, p2, l2, K2, m2, e2, rfl, h1, n1, d1, h2, n2, d2⟩ (by decide) true HF.out.1)).mono ?_; clear S; rintro e w8 ⟨rfl, S, H⟩; refine iv8 H n1 n2 n3 n4 n5 n6 n7 n8 ?_; clear n1 n2 n3 n4 n5 n6 n7 n8; intro n1 n2 n3 n4 n5 n6 n7 n8; replace n9 := n9.hold H; clear H
        go_wp2_with fail
        refine ho hKK (con6 (S.c6 0 rfl) (con6 (S.c6 1 rfl) (con3 (S.c3 2 rfl) (S.c6 3 rfl)))) fun hS => ?_
        clear hKK KK
        refine tk 3 hS ?_
        refine tk 4 hS ?_
        refine tk 5 hS ?_
        refine tk 6 hS ?_
        refine rd 7 fun KK hKK => ?_
        go_simp
        refine (S.call (sholds_any (L := 200) (H := 520) ⟨b6, p6, l6, K6, m6, e6, b7, p7, l7, K7, m7, e7, rfl, h6, n6, d6, h7, n7, d7⟩ ⟨b3, p3, l3, K3, m3, e3, b4, p4, l4, K4, m4, e4, rfl, h3, n3, d3, h4, n4, d4⟩ (by decide) true HF.out.2)).mono ?_; clear S; rintro e w9 ⟨rfl, S, H⟩; refine iv8 H n1 n2 n3 n4 n5 n6 n7 n8 ?_; clear n1 n2 n3 n4 n5 n6 n7 n8; intro n1 n2 n3 n4 n5 n6 n7 n8; replace n9 := n9.hold H; clear H
        go_wp2_with fail
        refine ho hKK (con6 (S.c6 0 rfl) (con6 (S.c6 1 rfl) (con3 (S.c3 2 rfl) (S.c6 3 rfl)))) fun hS => ?_
        clear hKK KK
        refine tk 8 hS ?_
        refine tk 9 hS ?_
        refine tk 10 hS ?_
        refine tk 11 hS ?_
        refine tk 13 hS ?_
        refine tk 16 hS ?_
        refine tk 17 hS ?_
        refine rd 12 fun KK hKK => ?_
        go_simp
        refine (S.call (sneg_any (L := 200) (H := 520) ⟨b1, p1, l1, K1, m1, e1, b2, p2, l2, K2, m2, e2, rfl, h1, n1, d1, h2, n2, d2⟩ (by decide))).mono ?_; clear S; rintro e w10 ⟨⟨_, rfl, b11, p11, l11, K11, m11, e11, b12, p12, l12, K12, m12, e12, rfl, h11, n11, d11, h12, n12, d12⟩, S, H⟩; refine iv8 H n1 n2 n3 n4 n5 n6 n7 n8 ?_; clear n1 n2 n3 n4 n5 n6 n7 n8; intro n1 n2 n3 n4 n5 n6 n7 n8; replace n9 := n9.hold H; clear H
        go_wp2_with fail
        refine ho hKK (con6 (S.c6 0 rfl) (con6 (S.c6 1 rfl) (con3 (S.c3 2 rfl) (S.c6 3 rfl)))) fun hS => ?_
        clear hKK KK
        refine rd 14 fun KK hKK => ?_
        go_simp
        refine (S.call (dneg_any (L := 200) (H := 520) ⟨b5, p5, l5, K5, m5, e5, rfl, h5, n5, d5⟩ (by decide))).mono ?_; clear S; rintro e w11 ⟨⟨_, rfl, b13, p13, l13, K13, m13, e13, rfl, h13, n13, d13⟩, S, H⟩; refine iv8 H n1 n2 n3 n4 n5 n6 n7 n8 ?_; clear n1 n2 n3 n4 n5 n6 n7 n8; intro n1 n2 n3 n4 n5 n6 n7 n8; refine iv3 H n9 n11 n12 ?_; clear n9 n11 n12 H; intro n9 n11 n12
        go_wp2_with fail
        refine ho hKK (con6 (S.c6 0 rfl) (con6 (S.c6 1 rfl) (con3 (S.c3 2 rfl) (S.c6 3 rfl)))) fun hS => ?_
        clear hKK KK
        refine rd 15 fun KK hKK => ?_
        go_simp
        refine (S.call (shas_any (L := 200) (H := 520) ⟨b11, p11, l11, K11, m11, e11, b12, p12, l12, K12, m12, e12, rfl, h11, n11, d11, h12, n12, d12⟩ ⟨b13, p13, l13, K13, m13, e13, rfl, h13, n13, d13⟩ (by decide) true HH.out)).mono ?_; clear S; rintro e w12 ⟨rfl, S, H⟩; refine iv8 H n1 n2 n3 n4 n5 n6 n7 n8 ?_; clear n1 n2 n3 n4 n5 n6 n7 n8; intro n1 n2 n3 n4 n5 n6 n7 n8; refine iv4 H n9 n11 n12 n13 ?_; clear n9 n11 n12 n13 H; intro n9 n11 n12 n13
        go_wp2_with fail
        refine ho hKK (con6 (S.c6 0 rfl) (con6 (S.c6 1 rfl) (con3 (S.c3 2 rfl) (S.c6 3 rfl)))) fun hS => ?_
        clear hKK KK
        refine rd 18 fun KK hKK => ?_
        go_simp
        refine (S.call (shas_any (L := 200) (H := 520) ⟨b1, p1, l1, K1, m1, e1, b2, p2, l2, K2, m2, e2, rfl, h1, n1, d1, h2, n2, d2⟩ ⟨b5, p5, l5, K5, m5, e5, rfl, h5, n5, d5⟩ (by decide) true HQ.out.1)).mono ?_; clear S; rintro e w13 ⟨rfl, S, H⟩; refine iv8 H n1 n2 n3 n4 n5 n6 n7 n8 ?_; clear n1 n2 n3 n4 n5 n6 n7 n8; intro n1 n2 n3 n4 n5 n6 n7 n8; refine iv4 H n9 n11 n12 n13 ?_; clear n9 n11 n12 n13 H; intro n9 n11 n12 n13
        go_wp2_with fail
        refine ho hKK (con6 (S.c6 0 rfl) (con6 (S.c6 1 rfl) (con3 (S.c3 2 rfl) (S.c6 3 rfl)))) fun hS => ?_
        clear hKK KK
        refine tk 19 hS ?_
        refine tk 20 hS ?_
        refine wpAnyH_done (by kernel_rfl) ?_ _
        clear n11 n12 n13; have c0_ := S.c6 0 rfl; have c2_ := S.c3 2 rfl; go_wp2_with fail
        generalize (.tuple #[.agg #[.bool b8, .slice p8 l8 K8, .int .i64 e8, .bool b9, .slice p9 l9 K9, .int .i64 e9], .int .i64 0] : Value) = g1
        clear c0_ c2_
        refine S.cl (shas_any (L := 200) (H := 520) ⟨b1, p1, l1, K1, m1, e1, b2, p2, l2, K2, m2, e2, rfl, h1, n1, d1, h2, n2, d2⟩ ⟨b5, p5, l5, K5, m5, e5, rfl, h5, n5, d5⟩ (by decide) true HQ.out.1) ?_; clear S; rintro e w14 rfl S H
        refine iv8 H n1 n2 n3 n4 n5 n6 n7 n8 ?_; clear n1 n2 n3 n4 n5 n6 n7 n8; intro n1 n2 n3 n4 n5 n6 n7 n8; replace n9 := n9.hold H
        clear H; have c0_ := S.c6 0 rfl; have c2_ := S.c3 2 rfl; clear c0_ c2_; have c2_ := S.c3 2 rfl; have c3_ := S.c6 3 rfl; go_wp2_with fail; clear c2_ c3_
        refine S.cl (shas_any (L := 200) (H := 520) ⟨b6, p6, l6, K6, m6, e6, b7, p7, l7, K7, m7, e7, rfl, h6, n6, d6, h7, n7, d7⟩ ⟨b5, p5, l5, K5, m5, e5, rfl, h5, n5, d5⟩ (by decide) true HU.out) ?_; clear S; rintro e w15 rfl S H
        refine iv8 H n1 n2 n3 n4 n5 n6 n7 n8 ?_; clear n1 n2 n3 n4 n5 n6 n7 n8; intro n1 n2 n3 n4 n5 n6 n7 n8; replace n9 := n9.hold H
        clear H; have c2_ := S.c3 2 rfl; have c3_ := S.c6 3 rfl; clear c2_ c3_; have c0_ := S.c6 0 rfl; have c2_ := S.c3 2 rfl; go_wp2_with fail; clear c0_ c2_
        refine S.cl (shas_any (L := 200) (H := 520) ⟨b1, p1, l1, K1, m1, e1, b2, p2, l2, K2, m2, e2, rfl, h1, n1, d1, h2, n2, d2⟩ ⟨b5, p5, l5, K5, m5, e5, rfl, h5, n5, d5⟩ (by decide) true HQ.out.1) ?_; clear S; rintro e w16 rfl S H
        refine iv8 H n1 n2 n3 n4 n5 n6 n7 n8 ?_; clear n1 n2 n3 n4 n5 n6 n7 n8; intro n1 n2 n3 n4 n5 n6 n7 n8; replace n9 := n9.hold H
        clear H; have c0_ := S.c6 0 rfl; have c2_ := S.c3 2 rfl; clear c0_ c2_; have c1_ := S.c6 1 rfl; have c2_ := S.c3 2 rfl; go_wp2_with fail; clear c1_ c2_
        refine S.cl (shas_any (L := 200) (H := 520) ⟨b3, p3, l3, K3, m3, e3, b4, p4, l4, K4, m4, e4, rfl, h3, n3, d3, h4, n4, d4⟩ ⟨b5, p5, l5, K5, m5, e5, rfl, h5, n5, d5⟩ (by decide) true HQ.out.2) ?_; clear S; rintro e w17 rfl S H
        refine iv8 H n1 n2 n3 n4 n5 n6 n7 n8 ?_; clear n1 n2 n3 n4 n5 n6 n7 n8; intro n1 n2 n3 n4 n5 n6 n7 n8; replace n9 := n9.hold H
        clear H; have c1_ := S.c6 1 rfl; have c2_ := S.c3 2 rfl; clear c1_ c2_; have c2_ := S.c3 2 rfl; have c4_ := S.c6 4 rfl; go_wp2_with fail; clear c2_ c4_
        refine S.cl (shas_any (L := 200) (H := 520) ⟨b8, p8, l8, K8, m8, e8, b9, p9, l9, K9, m9, e9, rfl, h8, n8, d8, h9, n9, d9⟩ ⟨b5, p5, l5, K5, m5, e5, rfl, h5, n5, d5⟩ (by decide) true HC.out) ?_; clear S; rintro e w18 rfl S H
        refine iv8 H n1 n2 n3 n4 n5 n6 n7 n8 ?_; clear n1 n2 n3 n4 n5 n6 n7 n8; intro n1 n2 n3 n4 n5 n6 n7 n8; replace n9 := n9.hold H
        clear H; have c2_ := S.c3 2 rfl; have c4_ := S.c6 4 rfl; clear c2_ c4_; have c0_ := S.c6 0 rfl; have c4_ := S.c6 4 rfl; go_wp2_with fail; clear c0_ c4_
        refine S.cl (sholds_any (L := 200) (H := 520) ⟨b1, p1, l1, K1, m1, e1, b2, p2, l2, K2, m2, e2, rfl, h1, n1, d1, h2, n2, d2⟩ ⟨b8, p8, l8, K8, m8, e8, b9, p9, l9, K9, m9, e9, rfl, h8, n8, d8, h9, n9, d9⟩ (by decide) true HV.out.1) ?_; clear S; rintro e w19 rfl S H
        refine iv8 H n1 n2 n3 n4 n5 n6 n7 n8 ?_; clear n1 n2 n3 n4 n5 n6 n7 n8; intro n1 n2 n3 n4 n5 n6 n7 n8; replace n9 := n9.hold H
        clear H; have c0_ := S.c6 0 rfl; have c4_ := S.c6 4 rfl; clear c0_ c4_; have c1_ := S.c6 1 rfl; have c4_ := S.c6 4 rfl; go_wp2_with fail; clear c1_ c4_
        refine S.cl (sholds_any (L := 200) (H := 520) ⟨b3, p3, l3, K3, m3, e3, b4, p4, l4, K4, m4, e4, rfl, h3, n3, d3, h4, n4, d4⟩ ⟨b8, p8, l8, K8, m8, e8, b9, p9, l9, K9, m9, e9, rfl, h8, n8, d8, h9, n9, d9⟩ (by decide) true HV.out.2) ?_; clear S; rintro e w20 rfl S H
        refine iv8 H n1 n2 n3 n4 n5 n6 n7 n8 ?_; clear n1 n2 n3 n4 n5 n6 n7 n8; intro n1 n2 n3 n4 n5 n6 n7 n8; replace n9 := n9.hold H
        clear H; have c1_ := S.c6 1 rfl; have c4_ := S.c6 4 rfl; go_wp2_with fail
        exact bodyPost_ret (v := .bool true) (by simp [results, Tryz.f5, go_sem]) rfl (⟨rfl, S.below⟩)
      ·
        have HQ := Lib.hid (And.intro hA hB)
        have HH : Hid (decide (¬ -x5 < -x2 ∧ ¬ -x1 < -x5) = true) := Lib.hid (HA.out.2.1.trans hA)
        have HF := Lib.hid HA.out.1
        have HC := Lib.hid (show decide (¬ x5 < mm ∧ ¬ nn < x5) = false from HR.out.1.trans (by rw [HQ.out.1, HQ.out.2]; rfl))
        have HV := Lib.hid HR.out.2
        have HU := Lib.hid (HA.out.2.2.1 (.inl hA))
        clear hA hB; clear c0_ c1_; have c0_ := S.c6 0 rfl; have c1_ := S.c6 1 rfl; have c2_ := S.c3 2 rfl; have c3_ := S.c6 3 rfl
        go_upto_region 7 with fail
        clear c0_ c1_ c2_ c3_
        replace n1 := n1.hold (Hold.drew _); replace n2 := n2.hold (Hold.drew _); replace n3 := n3.hold (Hold.drew _); replace n4 := n4.hold (Hold.drew _); replace n5 := n5.hold (Hold.drew _); replace n6 := n6.hold (Hold.drew _); replace n7 := n7.hold (Hold.drew _); replace n8 := n8.hold (Hold.drew _); replace n9 := n9.hold (Hold.drew _)
        replace S := S.drew
        refine wp_region_held_drew (S := fun W => W.cell? ⟨w.heap.size, 0, none⟩ = some (.bool b1) ∧ W.cell? ⟨w.heap.size, 1, none⟩ = some (.slice p1 l1 K1) ∧ W.cell? ⟨w.heap.size, 2, none⟩ = some (.int .i64 e1) ∧ W.cell? ⟨w.heap.size, 3, none⟩ = some (.bool b2) ∧ W.cell? ⟨w.heap.size, 4, none⟩ = some (.slice p2 l2 K2) ∧ W.cell? ⟨w.heap.size, 5, none⟩ = some (.int .i64 e2) ∧ W.cell? ⟨w.heap.size + 1, 0, none⟩ = some (.bool b3) ∧ W.cell? ⟨w.heap.size + 1, 1, none⟩ = some (.slice p3 l3 K3) ∧ W.cell? ⟨w.heap.size + 1, 2, none⟩ = some (.int .i64 e3) ∧ W.cell? ⟨w.heap.size + 1, 3, none⟩ = some (.bool b4) ∧ W.cell? ⟨w.heap.size + 1, 4, none⟩ = some (.slice p4 l4 K4) ∧ W.cell? ⟨w.heap.size + 1, 5, none⟩ = some (.int .i64 e4) ∧ W.cell? ⟨w.heap.size + 1 + 1, 0, none⟩ = some (.bool b5) ∧ W.cell? ⟨w.heap.size + 1 + 1, 1, none⟩ = some (.slice p5 l5 K5) ∧ W.cell? ⟨w.heap.size + 1 + 1, 2, none⟩ = some (.int .i64 e5) ∧ W.cell? ⟨w6.heap.size, 0, none⟩ = some (.bool b6) ∧ W.cell? ⟨w6.heap.size, 1, none⟩ = some (.slice p6 l6 K6) ∧ W.cell? ⟨w6.heap.size, 2, none⟩ = some (.int .i64 e6) ∧ W.cell? ⟨w6.heap.size, 3, none⟩ = some (.bool b7) ∧ W.cell? ⟨w6.heap.size, 4, none⟩ = some (.slice p7 l7 K7) ∧ W.cell? ⟨w6.heap.size, 5, none⟩ = some (.int .i64 e7)) (by kernel_rfl) (con6 (S.c6 0 rfl) (con6 (S.c6 1 rfl) (con3 (S.c3 2 rfl) (S.c6 3 rfl)))) (fun hS => ?_)
        refine tk 0 hS ?_
        refine tk 1 hS ?_
        refine rd 2 fun KK hKK => ?_
        go_simp
        refine (S.call (sholds_any (L := 200) (H := 520) ⟨b6, p6, l6, K6, m6, e6, b7, p7, l7, K7, m7, e7, rfl, h6, n6, d6, h7, n7, d7⟩ ⟨b1, p1, l1, K1, m1, e1, b2, p2, l2, K2, m2, e2, rfl, h1, n1, d1, h2, n2, d2⟩ (by decide) true HF.out.1)).mono ?_; clear S; rintro e w8 ⟨rfl, S, H⟩; refine iv8 H n1 n2 n3 n4 n5 n6 n7 n8 ?_; clear n1 n2 n3 n4 n5 n6 n7 n8; intro n1 n2 n3 n4 n5 n6 n7 n8; replace n9 := n9.hold H; clear H
        go_wp2_with fail
        refine ho hKK (con6 (S.c6 0 rfl) (con6 (S.c6 1 rfl) (con3 (S.c3 2 rfl) (S.c6 3 rfl)))) fun hS => ?_
        clear hKK KK
        refine tk 3 hS ?_
        refine tk 4 hS ?_
        refine tk 5 hS ?_
        refine tk 6 hS ?_
        refine rd 7 fun KK hKK => ?_
        go_simp
        refine (S.call (sholds_any (L := 200) (H := 520) ⟨b6, p6, l6, K6, m6, e6, b7, p7, l7, K7, m7, e7, rfl, h6, n6, d6, h7, n7, d7⟩ ⟨b3, p3, l3, K3, m3, e3, b4, p4, l4, K4, m4, e4, rfl, h3, n3, d3, h4, n4, d4⟩ (by decide) true HF.out.2)).mono ?_; clear S; rintro e w9 ⟨rfl, S, H⟩; refine iv8 H n1 n2 n3 n4 n5 n6 n7 n8 ?_; clear n1 n2 n3 n4 n5 n6 n7 n8; intro n1 n2 n3 n4 n5 n6 n7 n8; replace n9 := n9.hold H; clear H
        go_wp2_with fail
        refine ho hKK (con6 (S.c6 0 rfl) (con6 (S.c6 1 rfl) (con3 (S.c3 2 rfl) (S.c6 3 rfl)))) fun hS => ?_
        clear hKK KK
        refine tk 8 hS ?_
        refine tk 9 hS ?_
        refine tk 10 hS ?_
        refine tk 11 hS ?_
        refine tk 13 hS ?_
        refine tk 16 hS ?_
        refine tk 17 hS ?_
        refine rd 12 fun KK hKK => ?_
        go_simp
        refine (S.call (sneg_any (L := 200) (H := 520) ⟨b1, p1, l1, K1, m1, e1, b2, p2, l2, K2, m2, e2, rfl, h1, n1, d1, h2, n2, d2⟩ (by decide))).mono ?_; clear S; rintro e w10 ⟨⟨_, rfl, b11, p11, l11, K11, m11, e11, b12, p12, l12, K12, m12, e12, rfl, h11, n11, d11, h12, n12, d12⟩, S, H⟩; refine iv8 H n1 n2 n3 n4 n5 n6 n7 n8 ?_; clear n1 n2 n3 n4 n5 n6 n7 n8; intro n1 n2 n3 n4 n5 n6 n7 n8; replace n9 := n9.hold H; clear H
        go_wp2_with fail
        refine ho hKK (con6 (S.c6 0 rfl) (con6 (S.c6 1 rfl) (con3 (S.c3 2 rfl) (S.c6 3 rfl)))) fun hS => ?_
        clear hKK KK
        refine rd 14 fun KK hKK => ?_
        go_simp
        refine (S.call (dneg_any (L := 200) (H := 520) ⟨b5, p5, l5, K5, m5, e5, rfl, h5, n5, d5⟩ (by decide))).mono ?_; clear S; rintro e w11 ⟨⟨_, rfl, b13, p13, l13, K13, m13, e13, rfl, h13, n13, d13⟩, S, H⟩; refine iv8 H n1 n2 n3 n4 n5 n6 n7 n8 ?_; clear n1 n2 n3 n4 n5 n6 n7 n8; intro n1 n2 n3 n4 n5 n6 n7 n8; refine iv3 H n9 n11 n12 ?_; clear n9 n11 n12 H; intro n9 n11 n12
        go_wp2_with fail
        refine ho hKK (con6 (S.c6 0 rfl) (con6 (S.c6 1 rfl) (con3 (S.c3 2 rfl) (S.c6 3 rfl)))) fun hS => ?_
        clear hKK KK
        refine rd 15 fun KK hKK => ?_
        go_simp
        refine (S.call (shas_any (L := 200) (H := 520) ⟨b11, p11, l11, K11, m11, e11, b12, p12, l12, K12, m12, e12, rfl, h11, n11, d11, h12, n12, d12⟩ ⟨b13, p13, l13, K13, m13, e13, rfl, h13, n13, d13⟩ (by decide) true HH.out)).mono ?_; clear S; rintro e w12 ⟨rfl, S, H⟩; refine iv8 H n1 n2 n3 n4 n5 n6 n7 n8 ?_; clear n1 n2 n3 n4 n5 n6 n7 n8; intro n1 n2 n3 n4 n5 n6 n7 n8; refine iv4 H n9 n11 n12 n13 ?_; clear n9 n11 n12 n13 H; intro n9 n11 n12 n13
        go_wp2_with fail
        refine ho hKK (con6 (S.c6 0 rfl) (con6 (S.c6 1 rfl) (con3 (S.c3 2 rfl) (S.c6 3 rfl)))) fun hS => ?_
        clear hKK KK
        refine rd 18 fun KK hKK => ?_
        go_simp
        refine (S.call (shas_any (L := 200) (H := 520) ⟨b1, p1, l1, K1, m1, e1, b2, p2, l2, K2, m2, e2, rfl, h1, n1, d1, h2, n2, d2⟩ ⟨b5, p5, l5, K5, m5, e5, rfl, h5, n5, d5⟩ (by decide) true HQ.out.1)).mono ?_; clear S; rintro e w13 ⟨rfl, S, H⟩; refine iv8 H n1 n2 n3 n4 n5 n6 n7 n8 ?_; clear n1 n2 n3 n4 n5 n6 n7 n8; intro n1 n2 n3 n4 n5 n6 n7 n8; refine iv4 H n9 n11 n12 n13 ?_; clear n9 n11 n12 n13 H; intro n9 n11 n12 n13
        go_wp2_with fail
        refine ho hKK (con6 (S.c6 0 rfl) (con6 (S.c6 1 rfl) (con3 (S.c3 2 rfl) (S.c6 3 rfl)))) fun hS => ?_
        clear hKK KK
        refine tk 19 hS ?_
        refine tk 20 hS ?_
        refine wpAnyH_done (by kernel_rfl) ?_ _
        clear n11 n12 n13; have c0_ := S.c6 0 rfl; have c2_ := S.c3 2 rfl; go_wp2_with fail
        generalize (.tuple #[.agg #[.bool b8, .slice p8 l8 K8, .int .i64 e8, .bool b9, .slice p9 l9 K9, .int .i64 e9], .int .i64 0] : Value) = g1
        clear c0_ c2_
        refine S.cl (shas_any (L := 200) (H := 520) ⟨b1, p1, l1, K1, m1, e1, b2, p2, l2, K2, m2, e2, rfl, h1, n1, d1, h2, n2, d2⟩ ⟨b5, p5, l5, K5, m5, e5, rfl, h5, n5, d5⟩ (by decide) true HQ.out.1) ?_; clear S; rintro e w14 rfl S H
        refine iv8 H n1 n2 n3 n4 n5 n6 n7 n8 ?_; clear n1 n2 n3 n4 n5 n6 n7 n8; intro n1 n2 n3 n4 n5 n6 n7 n8; replace n9 := n9.hold H
        clear H; have c0_ := S.c6 0 rfl; have c2_ := S.c3 2 rfl; clear c0_ c2_; have c2_ := S.c3 2 rfl; have c3_ := S.c6 3 rfl; go_wp2_with fail; clear c2_ c3_
        refine S.cl (shas_any (L := 200) (H := 520) ⟨b6, p6, l6, K6, m6, e6, b7, p7, l7, K7, m7, e7, rfl, h6, n6, d6, h7, n7, d7⟩ ⟨b5, p5, l5, K5, m5, e5, rfl, h5, n5, d5⟩ (by decide) true HU.out) ?_; clear S; rintro e w15 rfl S H
        refine iv8 H n1 n2 n3 n4 n5 n6 n7 n8 ?_; clear n1 n2 n3 n4 n5 n6 n7 n8; intro n1 n2 n3 n4 n5 n6 n7 n8; replace n9 := n9.hold H
        clear H; have c2_ := S.c3 2 rfl; have c3_ := S.c6 3 rfl; clear c2_ c3_; have c0_ := S.c6 0 rfl; have c2_ := S.c3 2 rfl; go_wp2_with fail; clear c0_ c2_
        refine S.cl (shas_any (L := 200) (H := 520) ⟨b1, p1, l1, K1, m1, e1, b2, p2, l2, K2, m2, e2, rfl, h1, n1, d1, h2, n2, d2⟩ ⟨b5, p5, l5, K5, m5, e5, rfl, h5, n5, d5⟩ (by decide) true HQ.out.1) ?_; clear S; rintro e w16 rfl S H
        refine iv8 H n1 n2 n3 n4 n5 n6 n7 n8 ?_; clear n1 n2 n3 n4 n5 n6 n7 n8; intro n1 n2 n3 n4 n5 n6 n7 n8; replace n9 := n9.hold H
        clear H; have c0_ := S.c6 0 rfl; have c2_ := S.c3 2 rfl; clear c0_ c2_; have c1_ := S.c6 1 rfl; have c2_ := S.c3 2 rfl; go_wp2_with fail; clear c1_ c2_
        refine S.cl (shas_any (L := 200) (H := 520) ⟨b3, p3, l3, K3, m3, e3, b4, p4, l4, K4, m4, e4, rfl, h3, n3, d3, h4, n4, d4⟩ ⟨b5, p5, l5, K5, m5, e5, rfl, h5, n5, d5⟩ (by decide) false HQ.out.2) ?_; clear S; rintro e w17 rfl S H
        refine iv8 H n1 n2 n3 n4 n5 n6 n7 n8 ?_; clear n1 n2 n3 n4 n5 n6 n7 n8; intro n1 n2 n3 n4 n5 n6 n7 n8; replace n9 := n9.hold H
        clear H; have c1_ := S.c6 1 rfl; have c2_ := S.c3 2 rfl; clear c1_ c2_; have c2_ := S.c3 2 rfl; have c4_ := S.c6 4 rfl; go_wp2_with fail; clear c2_ c4_
        refine S.cl (shas_any (L := 200) (H := 520) ⟨b8, p8, l8, K8, m8, e8, b9, p9, l9, K9, m9, e9, rfl, h8, n8, d8, h9, n9, d9⟩ ⟨b5, p5, l5, K5, m5, e5, rfl, h5, n5, d5⟩ (by decide) false HC.out) ?_; clear S; rintro e w18 rfl S H
        refine iv8 H n1 n2 n3 n4 n5 n6 n7 n8 ?_; clear n1 n2 n3 n4 n5 n6 n7 n8; intro n1 n2 n3 n4 n5 n6 n7 n8; replace n9 := n9.hold H
        clear H; have c2_ := S.c3 2 rfl; have c4_ := S.c6 4 rfl; clear c2_ c4_; have c0_ := S.c6 0 rfl; have c4_ := S.c6 4 rfl; go_wp2_with fail; clear c0_ c4_
        refine S.cl (sholds_any (L := 200) (H := 520) ⟨b1, p1, l1, K1, m1, e1, b2, p2, l2, K2, m2, e2, rfl, h1, n1, d1, h2, n2, d2⟩ ⟨b8, p8, l8, K8, m8, e8, b9, p9, l9, K9, m9, e9, rfl, h8, n8, d8, h9, n9, d9⟩ (by decide) true HV.out.1) ?_; clear S; rintro e w19 rfl S H
        refine iv8 H n1 n2 n3 n4 n5 n6 n7 n8 ?_; clear n1 n2 n3 n4 n5 n6 n7 n8; intro n1 n2 n3 n4 n5 n6 n7 n8; replace n9 := n9.hold H
        clear H; have c0_ := S.c6 0 rfl; have c4_ := S.c6 4 rfl; clear c0_ c4_; have c1_ := S.c6 1 rfl; have c4_ := S.c6 4 rfl; go_wp2_with fail; clear c1_ c4_
        refine S.cl (sholds_any (L := 200) (H := 520) ⟨b3, p3, l3, K3, m3, e3, b4, p4, l4, K4, m4, e4, rfl, h3, n3, d3, h4, n4, d4⟩ ⟨b8, p8, l8, K8, m8, e8, b9, p9, l9, K9, m9, e9, rfl, h8, n8, d8, h9, n9, d9⟩ (by decide) true HV.out.2) ?_; clear S; rintro e w20 rfl S H
        refine iv8 H n1 n2 n3 n4 n5 n6 n7 n8 ?_; clear n1 n2 n3 n4 n5 n6 n7 n8; intro n1 n2 n3 n4 n5 n6 n7 n8; replace n9 := n9.hold H
        clear H; have c1_ := S.c6 1 rfl; have c4_ := S.c6 4 rfl; go_wp2_with fail
        exact bodyPost_ret (v := .bool true) (by simp [results, Tryz.f5, go_sem]) rfl (⟨rfl, S.below⟩)
      ·
        have HQ := Lib.hid (And.intro hA hB)
        have HH : Hid (decide (¬ -x5 < -x2 ∧ ¬ -x1 < -x5) = false) := Lib.hid (HA.out.2.1.trans hA)
        have HF := Lib.hid HA.out.1
        have HC := Lib.hid (show decide (¬ x5 < mm ∧ ¬ nn < x5) = false from HR.out.1.trans (by rw [HQ.out.1, HQ.out.2]; rfl))
        have HV := Lib.hid HR.out.2
        have HU := Lib.hid (HA.out.2.2.1 (.inr hB))
        clear hA hB; clear c0_ c1_; have c0_ := S.c6 0 rfl; have c1_ := S.c6 1 rfl; have c2_ := S.c3 2 rfl; have c3_ := S.c6 3 rfl
        go_upto_region 7 with fail
        clear c0_ c1_ c2_ c3_
        replace n1 := n1.hold (Hold.drew _); replace n2 := n2.hold (Hold.drew _); replace n3 := n3.hold (Hold.drew _); replace n4 := n4.hold (Hold.drew _); replace n5 := n5.hold (Hold.drew _); replace n6 := n6.hold (Hold.drew _); replace n7 := n7.hold (Hold.drew _); replace n8 := n8.hold (Hold.drew _); replace n9 := n9.hold (Hold.drew _)
        replace S := S.drew
        refine wp_region_held_drew (S := fun W => W.cell? ⟨w.heap.size, 0, none⟩ = some (.bool b1) ∧ W.cell? ⟨w.heap.size, 1, none⟩ = some (.slice p1 l1 K1) ∧ W.cell? ⟨w.heap.size, 2, none⟩ = some (.int .i64 e1) ∧ W.cell? ⟨w.heap.size, 3, none⟩ = some (.bool b2) ∧ W.cell? ⟨w.heap.size, 4, none⟩ = some (.slice p2 l2 K2) ∧ W.cell? ⟨w.heap.size, 5, none⟩ = some (.int .i64 e2) ∧ W.cell? ⟨w.heap.size + 1, 0, none⟩ = some (.bool b3) ∧ W.cell? ⟨w.heap.size + 1, 1, none⟩ = some (.slice p3 l3 K3) ∧ W.cell? ⟨w.heap.size + 1, 2, none⟩ = some (.int .i64 e3) ∧ W.cell? ⟨w.heap.size + 1, 3, none⟩ = some (.bool b4) ∧ W.cell? ⟨w.heap.size + 1, 4, none⟩ = some (.slice p4 l4 K4) ∧ W.cell? ⟨w.heap.size + 1, 5, none⟩ = some (.int .i64 e4) ∧ W.cell? ⟨w.heap.size + 1 + 1, 0, none⟩ = some (.bool b5) ∧ W.cell? ⟨w.heap.size + 1 + 1, 1, none⟩ = some (.slice p5 l5 K5) ∧ W.cell? ⟨w.heap.size + 1 + 1, 2, none⟩ = some (.int .i64 e5) ∧ W.cell? ⟨w6.heap.size, 0, none⟩ = some (.bool b6) ∧ W.cell? ⟨w6.heap.size, 1, none⟩ = some (.slice p6 l6 K6) ∧ W.cell? ⟨w6.heap.size, 2, none⟩ = some (.int .i64 e6) ∧ W.cell? ⟨w6.heap.size, 3, none⟩ = some (.bool b7) ∧ W.cell? ⟨w6.heap.size, 4, none⟩ = some (.slice p7 l7 K7) ∧ W.cell? ⟨w6.heap.size, 5, none⟩ = some (.int .i64 e7)) (by kernel_rfl) (con6 (S.c6 0 rfl) (con6 (S.c6 1 rfl) (con3 (S.c3 2 rfl) (S.c6 3 rfl)))) (fun hS => ?_)
        refine tk 0 hS ?_
        refine tk 1 hS ?_
        refine rd 2 fun KK hKK => ?_
        go_simp
        refine (S.call (sholds_any (L := 200) (H := 520) ⟨b6, p6, l6, K6, m6, e6, b7, p7, l7, K7, m7, e7, rfl, h6, n6, d6, h7, n7, d7⟩ ⟨b1, p1, l1, K1, m1, e1, b2, p2, l2, K2, m2, e2, rfl, h1, n1, d1, h2, n2, d2⟩ (by decide) true HF.out.1)).mono ?_; clear S; rintro e w8 ⟨rfl, S, H⟩; refine iv8 H n1 n2 n3 n4 n5 n6 n7 n8 ?_; clear n1 n2 n3 n4 n5 n6 n7 n8; intro n1 n2 n3 n4 n5 n6 n7 n8; replace n9 := n9.hold H; clear H
        go_wp2_with fail
        refine ho hKK (con6 (S.c6 0 rfl) (con6 (S.c6 1 rfl) (con3 (S.c3 2 rfl) (S.c6 3 rfl)))) fun hS => ?_
        clear hKK KK
        refine tk 3 hS ?_
        refine tk 4 hS ?_
        refine tk 5 hS ?_
        refine tk 6 hS ?_
        refine rd 7 fun KK hKK => ?_
        go_simp
        refine (S.call (sholds_any (L := 200) (H := 520) ⟨b6, p6, l6, K6, m6, e6, b7, p7, l7, K7, m7, e7, rfl, h6, n6, d6, h7, n7, d7⟩ ⟨b3, p3, l3, K3, m3, e3, b4, p4, l4, K4, m4, e4, rfl, h3, n3, d3, h4, n4, d4⟩ (by decide) true HF.out.2)).mono ?_; clear S; rintro e w9 ⟨rfl, S, H⟩; refine iv8 H n1 n2 n3 n4 n5 n6 n7 n8 ?_; clear n1 n2 n3 n4 n5 n6 n7 n8; intro n1 n2 n3 n4 n5 n6 n7 n8; replace n9 := n9.hold H; clear H
        go_wp2_with fail
        refine ho hKK (con6 (S.c6 0 rfl) (con6 (S.c6 1 rfl) (con3 (S.c3 2 rfl) (S.c6 3 rfl)))) fun hS => ?_
        clear hKK KK
        refine tk 8 hS ?_
        refine tk 9 hS ?_
        refine tk 10 hS ?_
        refine tk 11 hS ?_
        refine tk 13 hS ?_
        refine tk 16 hS ?_
        refine tk 17 hS ?_
        refine rd 12 fun KK hKK => ?_
        go_simp
        refine (S.call (sneg_any (L := 200) (H := 520) ⟨b1, p1, l1, K1, m1, e1, b2, p2, l2, K2, m2, e2, rfl, h1, n1, d1, h2, n2, d2⟩ (by decide))).mono ?_; clear S; rintro e w10 ⟨⟨_, rfl, b11, p11, l11, K11, m11, e11, b12, p12, l12, K12, m12, e12, rfl, h11, n11, d11, h12, n12, d12⟩, S, H⟩; refine iv8 H n1 n2 n3 n4 n5 n6 n7 n8 ?_; clear n1 n2 n3 n4 n5 n6 n7 n8; intro n1 n2 n3 n4 n5 n6 n7 n8; replace n9 := n9.hold H; clear H
        go_wp2_with fail
        refine ho hKK (con6 (S.c6 0 rfl) (con6 (S.c6 1 rfl) (con3 (S.c3 2 rfl) (S.c6 3 rfl)))) fun hS => ?_
        clear hKK KK
        refine rd 14 fun KK hKK => ?_
        go_simp
        refine (S.call (dneg_any (L := 200) (H := 520) ⟨b5, p5, l5, K5, m5, e5, rfl, h5, n5, d5⟩ (by decide))).mono ?_; clear S; rintro e w11 ⟨⟨_, rfl, b13, p13, l13, K13, m13, e13, rfl, h13, n13, d13⟩, S, H⟩; refine iv8 H n1 n2 n3 n4 n5 n6 n7 n8 ?_; clear n1 n2 n3 n4 n5 n6 n7 n8; intro n1 n2 n3 n4 n5 n6 n7 n8; refine iv3 H n9 n11 n12 ?_; clear n9 n11 n12 H; intro n9 n11 n12
        go_wp2_with fail
        refine ho hKK (con6 (S.c6 0 rfl) (con6 (S.c6 1 rfl) (con3 (S.c3 2 rfl) (S.c6 3 rfl)))) fun hS => ?_
        clear hKK KK
        refine rd 15 fun KK hKK => ?_
        go_simp
        refine (S.call (shas_any (L := 200) (H := 520) ⟨b11, p11, l11, K11, m11, e11, b12, p12, l12, K12, m12, e12, rfl, h11, n11, d11, h12, n12, d12⟩ ⟨b13, p13, l13, K13, m13, e13, rfl, h13, n13, d13⟩ (by decide) false HH.out)).mono ?_; clear S; rintro e w12 ⟨rfl, S, H⟩; refine iv8 H n1 n2 n3 n4 n5 n6 n7 n8 ?_; clear n1 n2 n3 n4 n5 n6 n7 n8; intro n1 n2 n3 n4 n5 n6 n7 n8; refine iv4 H n9 n11 n12 n13 ?_; clear n9 n11 n12 n13 H; intro n9 n11 n12 n13
        go_wp2_with fail
        refine ho hKK (con6 (S.c6 0 rfl) (con6 (S.c6 1 rfl) (con3 (S.c3 2 rfl) (S.c6 3 rfl)))) fun hS => ?_
        clear hKK KK
        refine rd 18 fun KK hKK => ?_
        go_simp
        refine (S.call (shas_any (L := 200) (H := 520) ⟨b1, p1, l1, K1, m1, e1, b2, p2, l2, K2, m2, e2, rfl, h1, n1, d1, h2, n2, d2⟩ ⟨b5, p5, l5, K5, m5, e5, rfl, h5, n5, d5⟩ (by decide) false HQ.out.1)).mono ?_; clear S; rintro e w13 ⟨rfl, S, H⟩; refine iv8 H n1 n2 n3 n4 n5 n6 n7 n8 ?_; clear n1 n2 n3 n4 n5 n6 n7 n8; intro n1 n2 n3 n4 n5 n6 n7 n8; refine iv4 H n9 n11 n12 n13 ?_; clear n9 n11 n12 n13 H; intro n9 n11 n12 n13
        go_wp2_with fail
        refine ho hKK (con6 (S.c6 0 rfl) (con6 (S.c6 1 rfl) (con3 (S.c3 2 rfl) (S.c6 3 rfl)))) fun hS => ?_
        clear hKK KK
        refine tk 19 hS ?_
        refine tk 20 hS ?_
        refine wpAnyH_done (by kernel_rfl) ?_ _
        clear n11 n12 n13; have c0_ := S.c6 0 rfl; have c2_ := S.c3 2 rfl; go_wp2_with fail
        generalize (.tuple #[.agg #[.bool b8, .slice p8 l8 K8, .int .i64 e8, .bool b9, .slice p9 l9 K9, .int .i64 e9], .int .i64 0] : Value) = g1
        clear c0_ c2_
        refine S.cl (shas_any (L := 200) (H := 520) ⟨b1, p1, l1, K1, m1, e1, b2, p2, l2, K2, m2, e2, rfl, h1, n1, d1, h2, n2, d2⟩ ⟨b5, p5, l5, K5, m5, e5, rfl, h5, n5, d5⟩ (by decide) false HQ.out.1) ?_; clear S; rintro e w14 rfl S H
        refine iv8 H n1 n2 n3 n4 n5 n6 n7 n8 ?_; clear n1 n2 n3 n4 n5 n6 n7 n8; intro n1 n2 n3 n4 n5 n6 n7 n8; replace n9 := n9.hold H
        clear H; have c0_ := S.c6 0 rfl; have c2_ := S.c3 2 rfl; clear c0_ c2_; have c1_ := S.c6 1 rfl; have c2_ := S.c3 2 rfl; go_wp2_with fail; clear c1_ c2_
        refine S.cl (shas_any (L := 200) (H := 520) ⟨b3, p3, l3, K3, m3, e3, b4, p4, l4, K4, m4, e4, rfl, h3, n3, d3, h4, n4, d4⟩ ⟨b5, p5, l5, K5, m5, e5, rfl, h5, n5, d5⟩ (by decide) true HQ.out.2) ?_; clear S; rintro e w15 rfl S H
        refine iv8 H n1 n2 n3 n4 n5 n6 n7 n8 ?_; clear n1 n2 n3 n4 n5 n6 n7 n8; intro n1 n2 n3 n4 n5 n6 n7 n8; replace n9 := n9.hold H
        clear H; have c1_ := S.c6 1 rfl; have c2_ := S.c3 2 rfl; clear c1_ c2_; have c2_ := S.c3 2 rfl; have c3_ := S.c6 3 rfl; go_wp2_with fail; clear c2_ c3_
        refine S.cl (shas_any (L := 200) (H := 520) ⟨b6, p6, l6, K6, m6, e6, b7, p7, l7, K7, m7, e7, rfl, h6, n6, d6, h7, n7, d7⟩ ⟨b5, p5, l5, K5, m5, e5, rfl, h5, n5, d5⟩ (by decide) true HU.out) ?_; clear S; rintro e w16 rfl S H
        refine iv8 H n1 n2 n3 n4 n5 n6 n7 n8 ?_; clear n1 n2 n3 n4 n5 n6 n7 n8; intro n1 n2 n3 n4 n5 n6 n7 n8; replace n9 := n9.hold H
        clear H; have c2_ := S.c3 2 rfl; have c3_ := S.c6 3 rfl; clear c2_ c3_; have c0_ := S.c6 0 rfl; have c2_ := S.c3 2 rfl; go_wp2_with fail; clear c0_ c2_
        refine S.cl (shas_any (L := 200) (H := 520) ⟨b1, p1, l1, K1, m1, e1, b2, p2, l2, K2, m2, e2, rfl, h1, n1, d1, h2, n2, d2⟩ ⟨b5, p5, l5, K5, m5, e5, rfl, h5, n5, d5⟩ (by decide) false HQ.out.1) ?_; clear S; rintro e w17 rfl S H
        refine iv8 H n1 n2 n3 n4 n5 n6 n7 n8 ?_; clear n1 n2 n3 n4 n5 n6 n7 n8; intro n1 n2 n3 n4 n5 n6 n7 n8; replace n9 := n9.hold H
        clear H; have c0_ := S.c6 0 rfl; have c2_ := S.c3 2 rfl; clear c0_ c2_; have c2_ := S.c3 2 rfl; have c4_ := S.c6 4 rfl; go_wp2_with fail; clear c2_ c4_
        refine S.cl (shas_any (L := 200) (H := 520) ⟨b8, p8, l8, K8, m8, e8, b9, p9, l9, K9, m9, e9, rfl, h8, n8, d8, h9, n9, d9⟩ ⟨b5, p5, l5, K5, m5, e5, rfl, h5, n5, d5⟩ (by decide) false HC.out) ?_; clear S; rintro e w18 rfl S H
        refine iv8 H n1 n2 n3 n4 n5 n6 n7 n8 ?_; clear n1 n2 n3 n4 n5 n6 n7 n8; intro n1 n2 n3 n4 n5 n6 n7 n8; replace n9 := n9.hold H
        clear H; have c2_ := S.c3 2 rfl; have c4_ := S.c6 4 rfl; clear c2_ c4_; have c0_ := S.c6 0 rfl; have c4_ := S.c6 4 rfl; go_wp2_with fail; clear c0_ c4_
        refine S.cl (sholds_any (L := 200) (H := 520) ⟨b1, p1, l1, K1, m1, e1, b2, p2, l2, K2, m2, e2, rfl, h1, n1, d1, h2, n2, d2⟩ ⟨b8, p8, l8, K8, m8, e8, b9, p9, l9, K9, m9, e9, rfl, h8, n8, d8, h9, n9, d9⟩ (by decide) true HV.out.1) ?_; clear S; rintro e w19 rfl S H
        refine iv8 H n1 n2 n3 n4 n5 n6 n7 n8 ?_; clear n1 n2 n3 n4 n5 n6 n7 n8; intro n1 n2 n3 n4 n5 n6 n7 n8; replace n9 := n9.hold H
        clear H; have c0_ := S.c6 0 rfl; have c4_ := S.c6 4 rfl; clear c0_ c4_; have c1_ := S.c6 1 rfl; have c4_ := S.c6 4 rfl; go_wp2_with fail; clear c1_ c4_
        refine S.cl (sholds_any (L := 200) (H := 520) ⟨b3, p3, l3, K3, m3, e3, b4, p4, l4, K4, m4, e4, rfl, h3, n3, d3, h4, n4, d4⟩ ⟨b8, p8, l8, K8, m8, e8, b9, p9, l9, K9, m9, e9, rfl, h8, n8, d8, h9, n9, d9⟩ (by decide) true HV.out.2) ?_; clear S; rintro e w20 rfl S H
        refine iv8 H n1 n2 n3 n4 n5 n6 n7 n8 ?_; clear n1 n2 n3 n4 n5 n6 n7 n8; intro n1 n2 n3 n4 n5 n6 n7 n8; replace n9 := n9.hold H
        clear H; have c1_ := S.c6 1 rfl; have c4_ := S.c6 4 rfl; go_wp2_with fail
        exact bodyPost_ret (v := .bool true) (by simp [results, Tryz.f5, go_sem]) rfl (⟨rfl, S.below⟩)
      ·
        have HQ := Lib.hid (And.intro hA hB)
        have HH : Hid (decide (¬ -x5 < -x2 ∧ ¬ -x1 < -x5) = false) := Lib.hid (HA.out.2.1.trans hA)
        have HF := Lib.hid HA.out.1
        have HC := Lib.hid (show decide (¬ x5 < mm ∧ ¬ nn < x5) = false from HR.out.1.trans (by rw [HQ.out.1, HQ.out.2]; rfl))
        have HV := Lib.hid HR.out.2
        clear hA hB; clear c0_ c1_; have c0_ := S.c6 0 rfl; have c1_ := S.c6 1 rfl; have c2_ := S.c3 2 rfl; have c3_ := S.c6 3 rfl
        go_upto_region 7 with fail
        clear c0_ c1_ c2_ c3_
        replace n1 := n1.hold (Hold.drew _); replace n2 := n2.hold (Hold.drew _); replace n3 := n3.hold (Hold.drew _); replace n4 := n4.hold (Hold.drew _); replace n5 := n5.hold (Hold.drew _); replace n6 := n6.hold (Hold.drew _); replace n7 := n7.hold (Hold.drew _); replace n8 := n8.hold (Hold.drew _); replace n9 := n9.hold (Hold.drew _)
        replace S := S.drew
        refine wp_region_held_drew (S := fun W => W.cell? ⟨w.heap.size, 0, none⟩ = some (.bool b1) ∧ W.cell? ⟨w.heap.size, 1, none⟩ = some (.slice p1 l1 K1) ∧ W.cell? ⟨w.heap.size, 2, none⟩ = some (.int .i64 e1) ∧ W.cell? ⟨w.heap.size, 3, none⟩ = some (.bool b2) ∧ W.cell? ⟨w.heap.size, 4, none⟩ = some (.slice p2 l2 K2) ∧ W.cell? ⟨w.heap.size, 5, none⟩ = some (.int .i64 e2) ∧ W.cell? ⟨w.heap.size + 1, 0, none⟩ = some (.bool b3) ∧ W.cell? ⟨w.heap.size + 1, 1, none⟩ = some (.slice p3 l3 K3) ∧ W.cell? ⟨w.heap.size + 1, 2, none⟩ = some (.int .i64 e3) ∧ W.cell? ⟨w.heap.size + 1, 3, none⟩ = some (.bool b4) ∧ W.cell? ⟨w.heap.size + 1, 4, none⟩ = some (.slice p4 l4 K4) ∧ W.cell? ⟨w.heap.size + 1, 5, none⟩ = some (.int .i64 e4) ∧ W.cell? ⟨w.heap.size + 1 + 1, 0, none⟩ = some (.bool b5) ∧ W.cell? ⟨w.heap.size + 1 + 1, 1, none⟩ = some (.slice p5 l5 K5) ∧ W.cell? ⟨w.heap.size + 1 + 1, 2, none⟩ = some (.int .i64 e5) ∧ W.cell? ⟨w6.heap.size, 0, none⟩ = some (.bool b6) ∧ W.cell? ⟨w6.heap.size, 1, none⟩ = some (.slice p6 l6 K6) ∧ W.cell? ⟨w6.heap.size, 2, none⟩ = some (.int .i64 e6) ∧ W.cell? ⟨w6.heap.size, 3, none⟩ = some (.bool b7) ∧ W.cell? ⟨w6.heap.size, 4, none⟩ = some (.slice p7 l7 K7) ∧ W.cell? ⟨w6.heap.size, 5, none⟩ = some (.int .i64 e7)) (by kernel_rfl) (con6 (S.c6 0 rfl) (con6 (S.c6 1 rfl) (con3 (S.c3 2 rfl) (S.c6 3 rfl)))) (fun hS => ?_)
        refine tk 0 hS ?_
        refine tk 1 hS ?_
        refine rd 2 fun KK hKK => ?_
        go_simp
        refine (S.call (sholds_any (L := 200) (H := 520) ⟨b6, p6, l6, K6, m6, e6, b7, p7, l7, K7, m7, e7, rfl, h6, n6, d6, h7, n7, d7⟩ ⟨b1, p1, l1, K1, m1, e1, b2, p2, l2, K2, m2, e2, rfl, h1, n1, d1, h2, n2, d2⟩ (by decide) true HF.out.1)).mono ?_; clear S; rintro e w8 ⟨rfl, S, H⟩; refine iv8 H n1 n2 n3 n4 n5 n6 n7 n8 ?_; clear n1 n2 n3 n4 n5 n6 n7 n8; intro n1 n2 n3 n4 n5 n6 n7 n8; replace n9 := n9.hold H; clear H
        go_wp2_with fail
        refine ho hKK (con6 (S.c6 0 rfl) (con6 (S.c6 1 rfl) (con3 (S.c3 2 rfl) (S.c6 3 rfl)))) fun hS => ?_
        clear hKK KK
        refine tk 3 hS ?_
        refine tk 4 hS ?_
        refine tk 5 hS ?_
        refine tk 6 hS ?_
        refine rd 7 fun KK hKK => ?_
        go_simp
        refine (S.call (sholds_any (L := 200) (H := 520) ⟨b6, p6, l6, K6, m6, e6, b7, p7, l7, K7, m7, e7, rfl, h6, n6, d6, h7, n7, d7⟩ ⟨b3, p3, l3, K3, m3, e3, b4, p4, l4, K4, m4, e4, rfl, h3, n3, d3, h4, n4, d4⟩ (by decide) true HF.out.2)).mono ?_; clear S; rintro e w9 ⟨rfl, S, H⟩; refine iv8 H n1 n2 n3 n4 n5 n6 n7 n8 ?_; clear n1 n2 n3 n4 n5 n6 n7 n8; intro n1 n2 n3 n4 n5 n6 n7 n8; replace n9 := n9.hold H; clear H
        go_wp2_with fail
        refine ho hKK (con6 (S.c6 0 rfl) (con6 (S.c6 1 rfl) (con3 (S.c3 2 rfl) (S.c6 3 rfl)))) fun hS => ?_
        clear hKK KK
        refine tk 8 hS ?_
        refine tk 9 hS ?_
        refine tk 10 hS ?_
        refine tk 11 hS ?_
        refine tk 13 hS ?_
        refine tk 16 hS ?_
        refine tk 17 hS ?_
        refine rd 12 fun KK hKK => ?_
        go_simp
        refine (S.call (sneg_any (L := 200) (H := 520) ⟨b1, p1, l1, K1, m1, e1, b2, p2, l2, K2, m2, e2, rfl, h1, n1, d1, h2, n2, d2⟩ (by decide))).mono ?_; clear S; rintro e w10 ⟨⟨_, rfl, b11, p11, l11, K11, m11, e11, b12, p12, l12, K12, m12, e12, rfl, h11, n11, d11, h12, n12, d12⟩, S, H⟩; refine iv8 H n1 n2 n3 n4 n5 n6 n7 n8 ?_; clear n1 n2 n3 n4 n5 n6 n7 n8; intro n1 n2 n3 n4 n5 n6 n7 n8; replace n9 := n9.hold H; clear H
        go_wp2_with fail
        refine ho hKK (con6 (S.c6 0 rfl) (con6 (S.c6 1 rfl) (con3 (S.c3 2 rfl) (S.c6 3 rfl)))) fun hS => ?_
        clear hKK KK
        refine rd 14 fun KK hKK => ?_
        go_simp
        refine (S.call (dneg_any (L := 200) (H := 520) ⟨b5, p5, l5, K5, m5, e5, rfl, h5, n5, d5⟩ (by decide))).mono ?_; clear S; rintro e w11 ⟨⟨_, rfl, b13, p13, l13, K13, m13, e13, rfl, h13, n13, d13⟩, S, H⟩; refine iv8 H n1 n2 n3 n4 n5 n6 n7 n8 ?_; clear n1 n2 n3 n4 n5 n6 n7 n8; intro n1 n2 n3 n4 n5 n6 n7 n8; refine iv3 H n9 n11 n12 ?_; clear n9 n11 n12 H; intro n9 n11 n12
        go_wp2_with fail
        refine ho hKK (con6 (S.c6 0 rfl) (con6 (S.c6 1 rfl) (con3 (S.c3 2 rfl) (S.c6 3 rfl)))) fun hS => ?_
        clear hKK KK
        refine rd 15 fun KK hKK => ?_
        go_simp
        refine (S.call (shas_any (L := 200) (H := 520) ⟨b11, p11, l11, K11, m11, e11, b12, p12, l12, K12, m12, e12, rfl, h11, n11, d11, h12, n12, d12⟩ ⟨b13, p13, l13, K13, m13, e13, rfl, h13, n13, d13⟩ (by decide) false HH.out)).mono ?_; clear S; rintro e w12 ⟨rfl, S, H⟩; refine iv8 H n1 n2 n3 n4 n5 n6 n7 n8 ?_; clear n1 n2 n3 n4 n5 n6 n7 n8; intro n1 n2 n3 n4 n5 n6 n7 n8; refine iv4 H n9 n11 n12 n13 ?_; clear n9 n11 n12 n13 H; intro n9 n11 n12 n13
        go_wp2_with fail
        refine ho hKK (con6 (S.c6 0 rfl) (con6 (S.c6 1 rfl) (con3 (S.c3 2 rfl) (S.c6 3 rfl)))) fun hS => ?_
        clear hKK KK
        refine rd 18 fun KK hKK => ?_
        go_simp
        refine (S.call (shas_any (L := 200) (H := 520) ⟨b1, p1, l1, K1, m1, e1, b2, p2, l2, K2, m2, e2, rfl, h1, n1, d1, h2, n2, d2⟩ ⟨b5, p5, l5, K5, m5, e5, rfl, h5, n5, d5⟩ (by decide) false HQ.out.1)).mono ?_; clear S; rintro e w13 ⟨rfl, S, H⟩; refine iv8 H n1 n2 n3 n4 n5 n6 n7 n8 ?_; clear n1 n2 n3 n4 n5 n6 n7 n8; intro n1 n2 n3 n4 n5 n6 n7 n8; refine iv4 H n9 n11 n12 n13 ?_; clear n9 n11 n12 n13 H; intro n9 n11 n12 n13
        go_wp2_with fail
        refine ho hKK (con6 (S.c6 0 rfl) (con6 (S.c6 1 rfl) (con3 (S.c3 2 rfl) (S.c6 3 rfl)))) fun hS => ?_
        clear hKK KK
        refine tk 19 hS ?_
        refine tk 20 hS ?_
        refine wpAnyH_done (by kernel_rfl) ?_ _
        clear n11 n12 n13; have c0_ := S.c6 0 rfl; have c2_ := S.c3 2 rfl; go_wp2_with fail
        generalize (.tuple #[.agg #[.bool b8, .slice p8 l8 K8, .int .i64 e8, .bool b9, .slice p9 l9 K9, .int .i64 e9], .int .i64 0] : Value) = g1
        clear c0_ c2_
        refine S.cl (shas_any (L := 200) (H := 520) ⟨b1, p1, l1, K1, m1, e1, b2, p2, l2, K2, m2, e2, rfl, h1, n1, d1, h2, n2, d2⟩ ⟨b5, p5, l5, K5, m5, e5, rfl, h5, n5, d5⟩ (by decide) false HQ.out.1) ?_; clear S; rintro e w14 rfl S H
        refine iv8 H n1 n2 n3 n4 n5 n6 n7 n8 ?_; clear n1 n2 n3 n4 n5 n6 n7 n8; intro n1 n2 n3 n4 n5 n6 n7 n8; replace n9 := n9.hold H
        clear H; have c0_ := S.c6 0 rfl; have c2_ := S.c3 2 rfl; clear c0_ c2_; have c1_ := S.c6 1 rfl; have c2_ := S.c3 2 rfl; go_wp2_with fail; clear c1_ c2_
        refine S.cl (shas_any (L := 200) (H := 520) ⟨b3, p3, l3, K3, m3, e3, b4, p4, l4, K4, m4, e4, rfl, h3, n3, d3, h4, n4, d4⟩ ⟨b5, p5, l5, K5, m5, e5, rfl, h5, n5, d5⟩ (by decide) false HQ.out.2) ?_; clear S; rintro e w15 rfl S H
        refine iv8 H n1 n2 n3 n4 n5 n6 n7 n8 ?_; clear n1 n2 n3 n4 n5 n6 n7 n8; intro n1 n2 n3 n4 n5 n6 n7 n8; replace n9 := n9.hold H
        clear H; have c1_ := S.c6 1 rfl; have c2_ := S.c3 2 rfl; clear c1_ c2_; have c0_ := S.c6 0 rfl; have c2_ := S.c3 2 rfl; go_wp2_with fail; clear c0_ c2_
        refine S.cl (shas_any (L := 200) (H := 520) ⟨b1, p1, l1, K1, m1, e1, b2, p2, l2, K2, m2, e2, rfl, h1, n1, d1, h2, n2, d2⟩ ⟨b5, p5, l5, K5, m5, e5, rfl, h5, n5, d5⟩ (by decide) false HQ.out.1) ?_; clear S; rintro e w16 rfl S H
        refine iv8 H n1 n2 n3 n4 n5 n6 n7 n8 ?_; clear n1 n2 n3 n4 n5 n6 n7 n8; intro n1 n2 n3 n4 n5 n6 n7 n8; replace n9 := n9.hold H
        clear H; have c0_ := S.c6 0 rfl; have c2_ := S.c3 2 rfl; clear c0_ c2_; have c2_ := S.c3 2 rfl; have c4_ := S.c6 4 rfl; go_wp2_with fail; clear c2_ c4_
        refine S.cl (shas_any (L := 200) (H := 520) ⟨b8, p8, l8, K8, m8, e8, b9, p9, l9, K9, m9, e9, rfl, h8, n8, d8, h9, n9, d9⟩ ⟨b5, p5, l5, K5, m5, e5, rfl, h5, n5, d5⟩ (by decide) false HC.out) ?_; clear S; rintro e w17 rfl S H
        refine iv8 H n1 n2 n3 n4 n5 n6 n7 n8 ?_; clear n1 n2 n3 n4 n5 n6 n7 n8; intro n1 n2 n3 n4 n5 n6 n7 n8; replace n9 := n9.hold H
        clear H; have c2_ := S.c3 2 rfl; have c4_ := S.c6 4 rfl; clear c2_ c4_; have c0_ := S.c6 0 rfl; have c4_ := S.c6 4 rfl; go_wp2_with fail; clear c0_ c4_
        refine S.cl (sholds_any (L := 200) (H := 520) ⟨b1, p1, l1, K1, m1, e1, b2, p2, l2, K2, m2, e2, rfl, h1, n1, d1, h2, n2, d2⟩ ⟨b8, p8, l8, K8, m8, e8, b9, p9, l9, K9, m9, e9, rfl, h8, n8, d8, h9, n9, d9⟩ (by decide) true HV.out.1) ?_; clear S; rintro e w18 rfl S H
        refine iv8 H n1 n2 n3 n4 n5 n6 n7 n8 ?_; clear n1 n2 n3 n4 n5 n6 n7 n8; intro n1 n2 n3 n4 n5 n6 n7 n8; replace n9 := n9.hold H
        clear H; have c0_ := S.c6 0 rfl; have c4_ := S.c6 4 rfl; clear c0_ c4_; have c1_ := S.c6 1 rfl; have c4_ := S.c6 4 rfl; go_wp2_with fail; clear c1_ c4_
        refine S.cl (sholds_any (L := 200) (H := 520) ⟨b3, p3, l3, K3, m3, e3, b4, p4, l4, K4, m4, e4, rfl, h3, n3, d3, h4, n4, d4⟩ ⟨b8, p8, l8, K8, m8, e8, b9, p9, l9, K9, m9, e9, rfl, h8, n8, d8, h9, n9, d9⟩ (by decide) true HV.out.2) ?_; clear S; rintro e w19 rfl S H
        refine iv8 H n1 n2 n3 n4 n5 n6 n7 n8 ?_; clear n1 n2 n3 n4 n5 n6 n7 n8; intro n1 n2 n3 n4 n5 n6 n7 n8; replace n9 := n9.hold H
        clear H; have c1_ := S.c6 1 rfl; have c4_ := S.c6 4 rfl; go_wp2_with fail
        exact bodyPost_ret (v := .bool true) (by simp [results, Tryz.f5, go_sem]) rfl (⟨rfl, S.below⟩)
end Go.Proofs.YtcdmojefheipoaaGreatDoor
