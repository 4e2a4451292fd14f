/-
  What the statement stands on.
-/
import Derived.Test.YtcdmojefheipoaaGreatDoorM26
import Derived.Test.YtcdmojefheipoaaGreatDoorM37
import Derived.Test.YtcdmojefheipoaaGreatDoorM41
import Derived.Test.YtcdmojefheipoaaGreatDoorM42
namespace Go.Proofs.YtcdmojefheipoaaGreatDoor
open Go.RowKit
theorem rndZ_dyx (z f : Int) (n : Nat) (up : Bool) : DyX (rndZ z f n up) := by
  obtain ⟨m, e, hc, he⟩ := canon_ex z f
  rw [← rnd_canon hc he]; exact rnd_dyx _ _ _ _
theorem nearV_dyx (a : Int) (d t n : Nat) (up : Bool) : DyX (nearV a d t n up) := by
  unfold nearV; exact rndZ_dyx _ _ _ _
theorem nearV_few {a : Int} {d t n : Nat} {up : Bool} {y : Rat} (h2 : 2 ≤ n) (hy : nearV a d t n up = y) : FewX y n := fun _ _ hc hx => rndZ_few h2 hc (hx.trans hy.symm)
theorem zero_few (n : Nat) : FewX 0 n := fun m e hc hx => by
  obtain ⟨rfl, _⟩ := dyc_uniq hc (.inl ⟨rfl, rfl⟩ : DyC 0 0) (hx.trans (dq_zero 0).symm)
  simp [nbits]
theorem near_sp {a : Rat} {k : Nat} (hak : RB a k) (n : Nat) (h2 : 2 ≤ n) (h4 : n ≤ 4096) (hk : 96 * k + n + 4 ≤ 16384) :
    ∃ yl yh : Rat, yl ≤ a ∧ a ≤ yh ∧ (DyX yl ∧ DyX yh) ∧ (FewX yl n ∧ FewX yh n) ∧ (yh - yl) * (((2 ^ (n - 2) : Nat) : Int) : Rat) ≤ a.abs ∧
    (∀ (va : Value) (w : World), Tab w → IsRat w va a → Calls Tryz.prog 46 #[va, .int .i64 n] w fun e w' => (∃ u, e = .returned (.tuple #[u, .int .i64 0]) ∧ IsSp w' u yl yh (n + 64 * k) (32 * k + 3)) ∧ Below w.heap.size w w') := by
  by_cases h0 : a = 0
  · subst h0
    refine ⟨0, 0, by grind, by grind, ⟨dyx_zero, dyx_zero⟩, ⟨zero_few n, zero_few n⟩, ?_, fun va w hT ha => ?_⟩
    · rw [Rat.abs_of_nonneg (by grind)]; grind
    · have hz : ∀ (up : Bool) (va : Value) (w : World), Tab w → IsRat w va 0 → Calls Tryz.prog 95 #[va, .int .i64 n, .bool up] w fun ev w' => (∃ u, ev = .returned (.tuple #[u, .int .i64 0]) ∧ IsD w' u 0 (n + 64 * k) (32 * k + 3)) ∧ Below w.heap.size w w' := fun up va w _ ha =>
        (dnear_zero ha n h2 h4 up).mono fun e w' h => ⟨⟨_, h.1, false, none, 0, 0, 0, 0, rfl, rfl, IsNat.zero _, DyF.zero _ _⟩, h.2⟩
      exact snear_of (n : Int) hT ha (hz false) (hz true)
  · obtain ⟨t, ht⟩ := tail_ex a.den a.den_nz
    obtain ⟨d, hd⟩ : ∃ d, a.den / 2 ^ t = d := ⟨_, rfl⟩
    obtain ⟨yl, hl⟩ : ∃ y, nearV a.num d t n false = y := ⟨_, rfl⟩
    obtain ⟨yh, hh⟩ : ∃ y, nearV a.num d t n true = y := ⟨_, rfl⟩
    obtain ⟨f1, f2, _, f4⟩ := near_all h0 ht hd h2 yl yh hl hh
    refine ⟨yl, yh, f1, f2, ⟨by rw [← hl]; exact nearV_dyx _ _ _ _ _, by rw [← hh]; exact nearV_dyx _ _ _ _ _⟩, ⟨nearV_few h2 hl, nearV_few h2 hh⟩, f4, fun va w hT ha => ?_⟩
    exact snear_of (n : Int) hT ha (fun _ _ hT ha => dnear_any hT ha hak n h2 h4 false h0 t ht d hd hk yl hl) (fun _ _ hT ha => dnear_any hT ha hak n h2 h4 true h0 t ht d hd hk yh hh)
set_option maxRecDepth 100000 in
set_option maxHeartbeats 16000000 in
theorem spanNear_any (b : Bool) (p q : Option Addr) (K J : Nat) (ds es : List Nat) (n f : Int) (w : World) (hT : Tab w) (at1 : At .u32 w p K ds) (at2 : At .u32 w q J es) (dd1 : Dig 4294967296 ds) (dd2 : Dig 4294967296 es) (hn0 : -9223372036854775808 ≤ n) (hn1 : n ≤ 9223372036854775807) (hf0 : -9223372036854775808 ≤ f) (hf1 : f ≤ 9223372036854775807) :
    Calls Tryz.prog 7 #[.agg #[.bool b, .slice p ds.length K, .slice q es.length J], .int .i64 n, .int .i64 f] w fun e w' => e = .returned (.bool true) ∧ Below w.heap.size w w' := by
  have HT := Lib.hid hT
  obtain ⟨l, hl⟩ : ∃ l, ds.length = l := ⟨_, rfl⟩
  obtain ⟨j, hj⟩ : ∃ l, es.length = l := ⟨_, rfl⟩
  have HD := Lib.hid (And.intro dd1 (And.intro dd2 (And.intro hl hj)))
  rw [hl, hj]
  clear hT dd1 dd2 hl hj hn0 hn1 hf0 hf1
  have S := (St.start w).alloc 34 [.bool b, .slice p l K, .slice q j J] (w.heap.size)
  try simp only [List.nil_append] at S
  replace at1 := at1.hold S.hold; replace at2 := at2.hold S.hold
  obtain ⟨c0_0, c0_1, c0_2⟩ := S.c3 0 rfl
  go_enter Tryz.func7, Tryz.ntmps7
  go_wp2_with fail; clear c0_0 c0_1 c0_2
  refine (S.call (between_any _ (HT.out.below S.below))).mono ?_
  clear S
  rintro e w1 ⟨rfl, S, H⟩
  replace at1 := at1.hold H; replace at2 := at2.hold H
  clear H; obtain ⟨c0_0, c0_1, c0_2⟩ := S.c3 0 rfl
  by_cases h20 : 10 < l
  · have h20' : (10 : Int) < ((l : Nat) : Int) := by omega
    go_wp2_with fail
    exact bodyPost_ret (v := .bool true) (by simp [results, Tryz.f7, go_sem]) rfl (⟨rfl, S.below⟩)
  have h20' : ¬ (10 : Int) < ((l : Nat) : Int) := by omega
  by_cases h21 : 10 < j
  · have h21' : (10 : Int) < ((j : Nat) : Int) := by omega
    go_wp2_with fail
    exact bodyPost_ret (v := .bool true) (by simp [results, Tryz.f7, go_sem]) rfl (⟨rfl, S.below⟩)
  have h21' : ¬ (10 : Int) < ((j : Nat) : Int) := by omega
  go_wp2_with fail; clear c0_0 c0_1 c0_2
  refine (S.call (rcheck_raw b p q K J l j ds es _ at1 at2 HD.out.1 HD.out.2.1 HD.out.2.2.1 HD.out.2.2.2 (by omega) (by omega))).mono ?_
  clear S
  rintro e w2 ⟨⟨c, rfl, hc⟩, S, H⟩
  replace at1 := at1.hold H; replace at2 := at2.hold H
  clear H; obtain ⟨c0_0, c0_1, c0_2⟩ := S.c3 0 rfl
  by_cases h0 : c = 0
  rotate_left
  · have h0' : (c != 0) = true := by simpa using h0
    clear hc; go_wp2_with fail
    exact bodyPost_ret (v := .bool true) (by simp [results, Tryz.f7, go_sem]) rfl (⟨rfl, S.below⟩)
  have h0' : (c != 0) = false := by rw [h0]; rfl
  have hv := hc.out h0
  obtain ⟨z, hz1, hz2, hz3, hz4⟩ := tried_rat (k := 10) (b := b) ⟨by have := HD.out.2.2.1; omega, by have := HD.out.2.2.2; omega, hv⟩ HD.out.1 HD.out.2.1 HD.out.2.2.1 HD.out.2.2.2 at1 at2
  clear h0 hc hv; clear at1 at2
  by_cases a1 : n < 2
  ·
    go_wp2_with fail
    exact bodyPost_ret (v := .bool true) (by simp [results, Tryz.f7, go_sem]) rfl (⟨rfl, S.below⟩)
  by_cases a2 : 1000 < n
  ·
    go_wp2_with fail
    exact bodyPost_ret (v := .bool true) (by simp [results, Tryz.f7, go_sem]) rfl (⟨rfl, S.below⟩)
  by_cases a3 : f < 2
  ·
    go_wp2_with fail
    exact bodyPost_ret (v := .bool true) (by simp [results, Tryz.f7, go_sem]) rfl (⟨rfl, S.below⟩)
  by_cases a4 : n < f
  ·
    go_wp2_with fail
    exact bodyPost_ret (v := .bool true) (by simp [results, Tryz.f7, go_sem]) rfl (⟨rfl, S.below⟩)
  obtain ⟨k, hk⟩ : ∃ k : Nat, (k : Int) = n := ⟨n.toNat, by omega⟩
  obtain ⟨m, hm⟩ : ∃ m : Nat, (m : Int) = f := ⟨f.toNat, by omega⟩
  subst hk hm
  have HK := Lib.hid (show (2 ≤ k ∧ k ≤ 4096 ∧ k ≤ 1000) ∧ 2 ≤ m ∧ m ≤ 4096 by omega)
  obtain ⟨yl, yh, f1, f2, f3, f4, _, f5⟩ := near_sp hz2 k HK.out.1.1 HK.out.1.2.1 (by have := HK.out.1.2.2; omega)
  have HF := Lib.hid (And.intro f1 (And.intro f2 (And.intro f3 (And.intro f4 hz2))))
  have H5 := Lib.hid f5
  have HZ := Lib.hid hz1
  clear f1 f2 f3 f4 f5 hz1 hz2; go_wp2_with fail; clear c0_0 c0_1 c0_2
  refine (S.call (H5.out _ _ (HT.out.below S.below) ⟨b, p, l, K, q, j, J, rfl, HZ.out, hz3, hz4⟩)).mono ?_
  clear S
  rintro e w3 ⟨⟨_, rfl, b1, p1, l1, K1, m1, e1, b2, p2, l2, K2, m2, e2, rfl, h1, n1, d1, h2, n2, d2⟩, S, H⟩
  replace hz3 := hz3.hold H; replace hz4 := hz4.hold H
  clear H; obtain ⟨c0_0, c0_1, c0_2⟩ := S.c3 0 rfl
  have H := S.hnew 29 [.bool b1, .slice p1 l1 K1, .int .i64 e1, .bool b2, .slice p2 l2 K2, .int .i64 e2]
  replace S := S.al 29 [.bool b1, .slice p1 l1 K1, .int .i64 e1, .bool b2, .slice p2 l2 K2, .int .i64 e2] (w3.heap.size)
  refine iv4 H hz3 hz4 n1 n2 ?_; clear hz3 hz4 n1 n2; intro hz3 hz4 n1 n2
  clear H; clear c0_0 c0_1 c0_2; obtain ⟨c1_0, c1_1, c1_2, c1_3, c1_4, c1_5⟩ := S.c6 1 rfl; go_wp2_with fail
  generalize (.tuple #[.agg #[.bool b1, .slice p1 l1 K1, .int .i64 e1, .bool b2, .slice p2 l2 K2, .int .i64 e2], .int .i64 0] : Value) = g1
  clear c1_0 c1_1 c1_2 c1_3 c1_4 c1_5
  refine (S.call (sround_v (HT.out.below S.below) ⟨b1, p1, l1, K1, m1, e1, b2, p2, l2, K2, m2, e2, rfl, h1, n1, d1, h2, n2, d2⟩ (by have := HK.out.1.2.2; omega) m HK.out.2.1 HK.out.2.2 rfl rfl)).mono ?_
  clear S
  rintro e w4 ⟨⟨_, rfl, b3, p3, l3, K3, m3, e3, b4, p4, l4, K4, m4, e4, rfl, h3, n3, d3, h4, n4, d4⟩, S, H⟩
  refine iv4 H hz3 hz4 n1 n2 ?_; clear hz3 hz4 n1 n2; intro hz3 hz4 n1 n2
  clear H; obtain ⟨c1_0, c1_1, c1_2, c1_3, c1_4, c1_5⟩ := S.c6 1 rfl
  have H := S.hnew 29 [.bool b3, .slice p3 l3 K3, .int .i64 e3, .bool b4, .slice p4 l4 K4, .int .i64 e4]
  replace S := S.al 29 [.bool b3, .slice p3 l3 K3, .int .i64 e3, .bool b4, .slice p4 l4 K4, .int .i64 e4] (w4.heap.size)
  refine iv6 H hz3 hz4 n1 n2 n3 n4 ?_; clear hz3 hz4 n1 n2 n3 n4; intro hz3 hz4 n1 n2 n3 n4
  clear H; clear c1_0 c1_1 c1_2 c1_3 c1_4 c1_5; obtain ⟨c0_0, c0_1, c0_2⟩ := S.c3 0 rfl; obtain ⟨c1_0, c1_1, c1_2, c1_3, c1_4, c1_5⟩ := S.c6 1 rfl; go_wp2_with fail
  generalize (.tuple #[.agg #[.bool b3, .slice p3 l3 K3, .int .i64 e3, .bool b4, .slice p4 l4 K4, .int .i64 e4], .int .i64 0] : Value) = g2
  clear c0_0 c0_1 c0_2 c1_0 c1_1 c1_2 c1_3 c1_4 c1_5
  refine (S.call (shas6_any (k1 := 62) (k2 := 10) (HT.out.below S.below) ⟨b1, p1, l1, K1, m1, e1, b2, p2, l2, K2, m2, e2, rfl, h1, n1, d1, h2, n2, d2⟩ ⟨b, p, l, K, q, j, J, rfl, HZ.out, hz3, hz4⟩ (by have := HK.out.1.2.2; omega) (by have := HK.out.1.2.2; omega) HF.out.2.2.2.2 (by decide) HF.out.1 HF.out.2.1 k HF.out.2.2.2.1.1 HF.out.2.2.2.1.2)).mono ?_
  clear S
  rintro e w5 ⟨rfl, S, H⟩
  refine iv6 H hz3 hz4 n1 n2 n3 n4 ?_; clear hz3 hz4 n1 n2 n3 n4; intro hz3 hz4 n1 n2 n3 n4
  clear H; obtain ⟨c0_0, c0_1, c0_2⟩ := S.c3 0 rfl; obtain ⟨c1_0, c1_1, c1_2, c1_3, c1_4, c1_5⟩ := S.c6 1 rfl; clear c0_0 c0_1 c0_2 c1_0 c1_1 c1_2 c1_3 c1_4 c1_5; obtain ⟨c0_0, c0_1, c0_2⟩ := S.c3 0 rfl; obtain ⟨c2_0, c2_1, c2_2, c2_3, c2_4, c2_5⟩ := S.c6 2 rfl; go_wp2_with fail; clear c0_0 c0_1 c0_2 c2_0 c2_1 c2_2 c2_3 c2_4 c2_5
  refine (S.call (shas6_any (k1 := 62) (k2 := 10) (HT.out.below S.below) ⟨b3, p3, l3, K3, m3, e3, b4, p4, l4, K4, m4, e4, rfl, h3, n3, d3, h4, n4, d4⟩ ⟨b, p, l, K, q, j, J, rfl, HZ.out, hz3, hz4⟩ (by have := HK.out.1.2.2; omega) (by have := HK.out.1.2.2; omega) HF.out.2.2.2.2 (by decide) (Rat.le_trans (rq_le HF.out.2.2.1.1 m) HF.out.1) (Rat.le_trans HF.out.2.1 (rq_ge HF.out.2.2.1.2 m)) m (rq_few HF.out.2.2.1.1 HK.out.2.1 false) (rq_few HF.out.2.2.1.2 HK.out.2.1 true))).mono ?_
  clear S
  rintro e w6 ⟨rfl, S, H⟩
  refine iv6 H hz3 hz4 n1 n2 n3 n4 ?_; clear hz3 hz4 n1 n2 n3 n4; intro hz3 hz4 n1 n2 n3 n4
  clear H; obtain ⟨c0_0, c0_1, c0_2⟩ := S.c3 0 rfl; obtain ⟨c2_0, c2_1, c2_2, c2_3, c2_4, c2_5⟩ := S.c6 2 rfl; clear c0_0 c0_1 c0_2 c2_0 c2_1 c2_2 c2_3 c2_4 c2_5; obtain ⟨c1_0, c1_1, c1_2, c1_3, c1_4, c1_5⟩ := S.c6 1 rfl; obtain ⟨c2_0, c2_1, c2_2, c2_3, c2_4, c2_5⟩ := S.c6 2 rfl; go_wp2_with fail; clear c1_0 c1_1 c1_2 c1_3 c1_4 c1_5 c2_0 c2_1 c2_2 c2_3 c2_4 c2_5
  refine (S.call (sholds_any ⟨b3, p3, l3, K3, m3, e3, b4, p4, l4, K4, m4, e4, rfl, h3, n3, d3, h4, n4, d4⟩ ((show IsSp _ _ _ _ _ _ from ⟨b1, p1, l1, K1, m1, e1, b2, p2, l2, K2, m2, e2, rfl, h1, n1, d1, h2, n2, d2⟩).mono (Nat.le_refl _) (Nat.le_succ _)) (by have := HK.out.1.2.2; omega) true (decide_eq_true ⟨Rat.not_lt.2 (rq_le HF.out.2.2.1.1 m), Rat.not_lt.2 (rq_ge HF.out.2.2.1.2 m)⟩))).mono ?_
  clear S
  rintro e w7 ⟨rfl, S, H⟩
  refine iv6 H hz3 hz4 n1 n2 n3 n4 ?_; clear hz3 hz4 n1 n2 n3 n4; intro hz3 hz4 n1 n2 n3 n4
  clear H; obtain ⟨c1_0, c1_1, c1_2, c1_3, c1_4, c1_5⟩ := S.c6 1 rfl; obtain ⟨c2_0, c2_1, c2_2, c2_3, c2_4, c2_5⟩ := S.c6 2 rfl; clear c1_0 c1_1 c1_2 c1_3 c1_4 c1_5 c2_0 c2_1 c2_2 c2_3 c2_4 c2_5; go_wp2_with fail
  exact bodyPost_ret (v := .bool true) (by simp [results, Tryz.f7, go_sem]) rfl (⟨rfl, S.below⟩)
end Go.Proofs.YtcdmojefheipoaaGreatDoor
