/-
  What the statement stands on.
-/
import Derived.Test.YtfnlmiajpledfaaGreatDoorM23
import Derived.Test.YtfnlmiajpledfaaGreatDoorM24
namespace Go.Proofs.YtfnlmiajpledfaaGreatDoor
open Go.RowKit
theorem isSp_zero (w : World) (L H : Nat) : IsSp w (.agg #[.bool false, .slice none 0 0, .int .i64 0, .bool false, .slice none 0 0, .int .i64 0]) 0 0 L H :=
  ⟨false, none, 0, 0, 0, 0, false, none, 0, 0, 0, 0, rfl, rfl, IsNat.zero _, DyF.zero _ _, rfl, IsNat.zero _, DyF.zero _ _⟩
theorem near_mono {w : World} {v : Value} {x y : Rat} {k : Nat} (h : IsSp w v x y (k + 64 * 3) (32 * 3 + 3)) (hk : k ≤ 200) : IsSp w v x y 392 99 := h.mono (by omega) (by decide)
theorem near_pos {yl yh : Rat} (h2 : 1 ≤ yh) (h : (yh - yl) * (((2 ^ (10 - 2) : Nat) : Int) : Rat) ≤ (1 : Rat).abs) : yl.num.sign = 1 := by
  have h3 : (((2 ^ (10 - 2) : Nat) : Int) : Rat) = 256 := by decide +kernel
  have h4 : (1 : Rat).abs = 1 := by decide +kernel
  rw [h3, h4] at h
  have h5 : 0 < yl := by grind
  refine Int.sign_eq_one_of_pos ?_
  have h6 : ¬ yl.num ≤ 0 := fun h7 => by
    have h8 : 0 ≤ (-yl).num := by rw [Rat.neg_num]; omega
    have h9 := Rat.num_nonneg.1 h8
    grind
  omega
theorem held_mid {y z s : Rat} (h1 : y ≤ s) (h2 : s ≤ z) : ((y + z) * (1 / 2) - s).abs ≤ z - y := by
  rcases Rat.le_total (a := 0) (b := (y + z) * (1 / 2) - s) with h | h
  · rw [Rat.abs_of_nonneg h]; grind
  · rw [Rat.abs_of_nonpos h]; grind
theorem rb_abs' {x : Rat} {k : Nat} (h : RB x k) : RB x.abs k := by
  rcases Rat.le_total (a := 0) (b := x) with h0 | h0
  · rw [Rat.abs_of_nonneg h0]; exact h
  · rw [Rat.abs_of_nonpos h0]; exact rb_neg h
theorem held_cmp {a b : Rat} (h : b ≤ a) : cmpR a b = 1 ∨ cmpR a b = 0 := by
  rcases rat_three a b with h1 | h1 | h1
  · exact absurd h1 (by grind)
  · subst h1; exact .inr (cmpR_eq _)
  · exact .inl (cmpR_gt h1)
set_option maxRecDepth 100000 in
set_option maxHeartbeats 16000000 in
theorem wholeHeld_any (b : Bool) (p q : Option Addr) (K J : Nat) (ds es : List Nat) (v : Value) (xs : List RawQ) (f : Int) (w : World) (hT : Tab w) (at1 : At .u32 w p K ds) (at2 : At .u32 w q J es) (dd1 : Dig 4294967296 ds) (dd2 : Dig 4294967296 es) (hR : Raws w v xs) (hf0 : -9223372036854775808 ≤ f) (hf1 : f ≤ 9223372036854775807) :
    Calls Tryz.prog 15 #[.agg #[.bool b, .slice p ds.length K, .slice q es.length J], v, .int .i64 f] w fun e w' => e = .returned (.bool true) ∧ Below w.heap.size w w' := by
  have HT := Lib.hid hT
  obtain ⟨l, hl⟩ : ∃ l, ds.length = l := ⟨_, rfl⟩
  obtain ⟨j, hj⟩ : ∃ l, es.length = l := ⟨_, rfl⟩
  obtain ⟨n, hn⟩ : ∃ l, xs.length = l := ⟨_, rfl⟩
  obtain ⟨pv, cv, rfl⟩ := hR.form
  rw [hn] at hR
  have HD := Lib.hid (And.intro dd1 (And.intro dd2 (And.intro hl (And.intro hj hn))))
  have HR := Lib.hid hR
  rw [hl, hj, hn]
  clear hT dd1 dd2 hl hj hn hf0 hf1 hR
  obtain ⟨oa, ob, o1, o2, _, _, o3, o4⟩ := near_sp (a := 1) (k := 1) ⟨by show Int.natAbs 1 < _; rw [NB_one]; decide, by show 1 < NB 1; rw [NB_one]; decide⟩ 10 (by decide) (by decide) (by decide)
  have HO := Lib.hid (And.intro o1 (And.intro o2 (near_pos o2 o3)))
  have HN := Lib.hid o4
  clear o1 o2 o3 o4
  have S := (St.start w).alloc 34 [.bool b, .slice p l K, .slice q j J] (w.heap.size)
  try simp only [List.nil_append] at S
  replace at1 := at1.hold S.hold; replace at2 := at2.hold S.hold
  obtain ⟨c0_0, c0_1, c0_2⟩ := S.c3 0 rfl
  go_enter Tryz.func15, Tryz.ntmps15
  go_wp2_with fail; clear c0_0 c0_1 c0_2
  refine (S.call (rof_any 1 1 _ (by decide) (by decide) (by decide) (by decide) (by decide) 1 (by decide +kernel))).mono ?_
  clear S
  rintro e w1 ⟨⟨_, rfl, b21, p21, l21, K21, q21, j21, J21, rfl, h21, n21, d21⟩, S, H⟩
  replace at1 := at1.hold H; replace at2 := at2.hold H
  clear H; obtain ⟨c0_0, c0_1, c0_2⟩ := S.c3 0 rfl; go_wp2_with fail; clear c0_0 c0_1 c0_2
  refine (S.call (HN.out _ _ (HT.out.below S.below) ⟨b21, p21, l21, K21, q21, j21, J21, rfl, h21, n21, d21⟩)).mono ?_
  clear S
  rintro e w2 ⟨⟨_, rfl, b1, p1, l1, K1, m1, e1, b2, p2, l2, K2, m2, e2, rfl, h1, n1, d1, h2, n2, d2⟩, S, H⟩
  refine iv4 H at1 at2 n21 d21 ?_; clear at1 at2 n21 d21; intro at1 at2 n21 d21
  clear H; obtain ⟨c0_0, c0_1, c0_2⟩ := S.c3 0 rfl; clear n21 d21
  have H := S.hnew 29 [.bool b1, .slice p1 l1 K1, .int .i64 e1, .bool b2, .slice p2 l2 K2, .int .i64 e2]
  replace S := S.al 29 [.bool b1, .slice p1 l1 K1, .int .i64 e1, .bool b2, .slice p2 l2 K2, .int .i64 e2] (w2.heap.size)
  refine iv4 H at1 at2 n1 n2 ?_; clear at1 at2 n1 n2; intro at1 at2 n1 n2
  clear H; clear c0_0 c0_1 c0_2; obtain ⟨c0_0, c0_1, c0_2⟩ := S.c3 0 rfl; obtain ⟨c1_0, c1_1, c1_2, c1_3, c1_4, c1_5⟩ := S.c6 1 rfl
  go_upto_region 2 with fail
  clear c0_0 c0_1 c0_2 c1_0 c1_1 c1_2 c1_3 c1_4 c1_5
  replace at1 := at1.hold (Hold.drew _); replace at2 := at2.hold (Hold.drew _); replace n1 := n1.hold (Hold.drew _); replace n2 := n2.hold (Hold.drew _)
  replace S := S.drew
  refine wp_region_held_drew (S := fun W => W.cell? ⟨w2.heap.size, 0, none⟩ = some (.bool b1) ∧ W.cell? ⟨w2.heap.size, 1, none⟩ = some (.slice p1 l1 K1) ∧ W.cell? ⟨w2.heap.size, 2, none⟩ = some (.int .i64 e1) ∧ W.cell? ⟨w2.heap.size, 3, none⟩ = some (.bool b2) ∧ W.cell? ⟨w2.heap.size, 4, none⟩ = some (.slice p2 l2 K2) ∧ W.cell? ⟨w2.heap.size, 5, none⟩ = some (.int .i64 e2)) (by kernel_rfl) (S.c6 1 rfl) (fun hS => ?_)
  refine tk 0 hS ?_
  refine tk 1 hS ?_
  refine tk 2 hS ?_
  refine tk 3 hS ?_
  refine rd 4 fun KK hKK => ?_
  go_simp
  refine (S.call (dof_any 1 0 _ (HT.out.below S.below) (by decide) (by decide) (by decide) (by decide) 1 (by decide +kernel))).mono ?_; clear S; rintro e w3 ⟨⟨_, rfl, b22, p22, l22, K22, m22, e22, rfl, h22, n22, d22⟩, S, H⟩; refine iv4 H at1 at2 n1 n2 ?_; clear at1 at2 n1 n2; intro at1 at2 n1 n2; clear H
  go_wp2_with fail
  refine ho hKK (S.c6 1 rfl) fun hS => ?_
  clear hKK KK
  refine rd 5 fun KK hKK => ?_
  go_simp
  refine (S.call (shas_any (L := 100) (H := 164) (IsSp.mono ⟨b1, p1, l1, K1, m1, e1, b2, p2, l2, K2, m2, e2, rfl, h1, n1, d1, h2, n2, d2⟩ (by decide) (by decide)) (IsD.mono ⟨b22, p22, l22, K22, m22, e22, rfl, h22, n22, d22⟩ (by decide) (by decide)) (by decide) true (decide_eq_true ⟨Rat.not_lt.2 HO.out.1, Rat.not_lt.2 HO.out.2.1⟩))).mono ?_; clear S; rintro e w4 ⟨rfl, S, H⟩; refine iv5 H at1 at2 n1 n2 n22 ?_; clear at1 at2 n1 n2 n22; intro at1 at2 n1 n2 n22; clear H
  go_wp2_with fail
  refine ho hKK (S.c6 1 rfl) fun hS => ?_
  clear hKK KK
  refine tk 6 hS ?_
  refine tk 7 hS ?_
  refine tk 8 hS ?_
  refine tk 9 hS ?_
  refine tk 10 hS ?_
  refine rd 11 fun KK hKK => ?_
  go_simp
  refine (S.call (dsign_any ⟨b1, p1, l1, K1, m1, e1, rfl, h1, n1, d1⟩ (by decide) HO.out.2.2)).mono ?_; clear S; rintro e w5 ⟨rfl, S, H⟩; refine iv5 H at1 at2 n1 n2 n22 ?_; clear at1 at2 n1 n2 n22; intro at1 at2 n1 n2 n22; clear H
  go_wp2_with fail
  refine ho hKK (S.c6 1 rfl) fun hS => ?_
  clear hKK KK
  refine tk 12 hS ?_
  refine tk 13 hS ?_
  refine wpAnyH_done (by kernel_rfl) ?_ _
  clear n22 n1 n2
  by_cases h20 : 8 < n
  · have h20' : (8 : Int) < ((n : Nat) : Int) := by omega
    go_wp2_with fail
    exact bodyPost_ret (v := .bool true) (by simp [results, Tryz.f15, go_sem]) rfl (⟨rfl, S.below⟩)
  have h20' : ¬ (8 : Int) < ((n : Nat) : Int) := by omega
  by_cases h21 : f < 2
  · skip
    go_wp2_with fail
    exact bodyPost_ret (v := .bool true) (by simp [results, Tryz.f15, go_sem]) rfl (⟨rfl, S.below⟩)
  skip
  by_cases h22a : 200 < f
  · skip
    go_wp2_with fail
    exact bodyPost_ret (v := .bool true) (by simp [results, Tryz.f15, go_sem]) rfl (⟨rfl, S.below⟩)
  skip
  obtain ⟨k5, hk5⟩ : ∃ k : Nat, (k : Int) = f := ⟨f.toNat, by omega⟩
  subst hk5
  have HK := Lib.hid (show (2 ≤ k5 ∧ k5 ≤ 200) ∧ n ≤ 8 by omega)
  generalize w2.heap.size = bk1 at S ⊢
  have hx0 : RawQ.In w5 ⟨b, p, q, K, J, ds, es⟩ := ⟨at1, at2, HD.out.1, HD.out.2.1⟩
  have hR5 := HR.out.to S.below
  have hown : (w5.alloc (.cells #[.bool b, .slice p l K, .slice q j J] 34)).ownsRow w5.heap.size 34 3 (.slice (some ⟨w5.heap.size, 0, none⟩) 1 1) 1 (rawCells [⟨b, p, q, K, J, ds, es⟩]) := by
    have h := World.ownsRow_lit (e := 34) (size := 3) (base := w5.heap.size) w5 #[.bool b, .slice p l K, .slice q j J] 1 (Nat.le_refl _) (by decide) rfl
    simpa [rawCells, HD.out.2.2.1, HD.out.2.2.2.1] using h
  have hbl : Below w5.heap.size w5 (w5.alloc (.cells #[.bool b, .slice p l K, .slice q j J] 34)) := (Below.refl _ w5).alloc (Nat.le_refl _) _
  obtain ⟨c0_0, c0_1, c0_2⟩ := S.c3 0 rfl
  go_upto_region 7 with (at_builtin; refine append_raws rfl _ _ rfl w5.heap.size _ 1 _ rfl hown _ xs rfl (hR5.to hbl) (by have := HD.out.2.2.2.2; have := HK.out.2; omega) (by simp) w5.heap.size w5 hbl (Nat.le_refl _) (fun v6 w6 ho hB6 _ => ?_); obtain ⟨pp, cc, rfl, hL6⟩ := raws_out ho (hx0.hold (Hold.of_below hB6)) (hR5.to hB6).ins HD.out.2.2.2.2)
  have S6 := S.to hB6
  have hx6 := hx0.hold (Hold.of_below hB6)
  have HL := Lib.hid hL6
  have HX := Lib.hid (And.intro hx6 S6)
  have hW6 := S6.below
  clear c0_0 c0_1 c0_2 hown hR5 hbl hx0 at1 at2 S hL6 hx6 ho hB6 S6 h20 h20' h21 h22a; go_wp2_with fail
  go_loopw [68] (fun si wr => ∃ k : Nat, k ≤ n + 1 ∧ si = .int .i64 k ∧ Hid (∀ (i : Nat) (y : RawQ), i < k → ((⟨b, p, q, K, J, ds, es⟩ : RawQ) :: xs)[i]? = some y → y.Tried 3) ∧ Below w6.heap.size w6 wr) (fun si _ => n + 1 - (intOf si).toNat)
  case atStart => exact ⟨0, by omega, rfl, fun i y h => by omega, Below.refl _ _⟩
  case round =>
    obtain ⟨k, hk, rfl, hz, hB⟩ := hrel
    by_cases hlt : k < n + 1
    · obtain ⟨g, off, b1, p1, l1, K1, p2, l2, K2, es1, es2, rfl, hg, a0, a1, a2, hq, hl1, hl2, at1, at2, d1, d2⟩ := HL.out.get hlt
      replace a0 := (hB.cell (p := ⟨g, off + k * 3, none⟩) hg).trans a0
      replace a1 := (hB.cell (p := ⟨g, off + k * 3 + 1, none⟩) hg).trans a1
      replace a2 := (hB.cell (p := ⟨g, off + k * 3 + 2, none⟩) hg).trans a2
      replace at1 := at1.below hB (Nat.le_refl _)
      replace at2 := at2.below hB (Nat.le_refl _)
      have S : St w6 wr [] := ⟨hB, trivial⟩
      have hki : (k : Int) < ((n + 1 : Nat) : Int) := by omega
      have hk9 : (k : Int) ≤ 9 := by have := HK.out.2; omega
      have HQ := Lib.hid (And.intro hq (And.intro hl1 (And.intro hl2 hlt)))
      clear hq hl1 hl2 hg hlt
      have H := S.hnew 34 [.bool b1, .slice p1 l1 K1, .slice p2 l2 K2]
      replace S := S.al 34 [.bool b1, .slice p1 l1 K1, .slice p2 l2 K2] (wr.heap.size)
      replace at1 := at1.hold H; replace at2 := at2.hold H
      clear H; obtain ⟨c0_0, c0_1, c0_2⟩ := S.c3 0 rfl; go_wp2_with fail; clear c0_0 c0_1 c0_2
      refine (S.call (rcheck_all b1 p1 p2 K1 K2 l1 l2 es1 es2 _ at1 at2 d1 d2 HQ.out.2.1 HQ.out.2.2.1)).mono ?_
      clear S
      rintro e w7 ⟨⟨c, rfl, hc⟩, S, H⟩
      clear H at1 at2 d1 d2 a0 a1 a2
      have hW7 : Below w.heap.size w w7 := hW6.trans (S.below.mono hW6.size)
      obtain ⟨c0_0, c0_1, c0_2⟩ := S.c3 0 rfl
      by_cases h0 : c = 0
      rotate_left
      · have h0' : (c != 0) = true := by simpa using h0
        clear hc; go_wp2_with fail
        exact bodyPost_ret (v := .bool true) (by simp [results, Tryz.f15, go_sem]) rfl (⟨rfl, hW7⟩)
      have h0' : (c != 0) = false := by rw [h0]; rfl
      have hv := Lib.hid (hc.out h0)
      clear h0 hc
      by_cases h31 : 3 < l1
      · have h31' : (3 : Int) < ((l1 : Nat) : Int) := by omega
        go_wp2_with fail
        exact bodyPost_ret (v := .bool true) (by simp [results, Tryz.f15, go_sem]) rfl (⟨rfl, hW7⟩)
      have h31' : ¬ (3 : Int) < ((l1 : Nat) : Int) := by omega
      by_cases h32 : 3 < l2
      · have h32' : (3 : Int) < ((l2 : Nat) : Int) := by omega
        go_wp2_with fail
        exact bodyPost_ret (v := .bool true) (by simp [results, Tryz.f15, go_sem]) rfl (⟨rfl, hW7⟩)
      have h32' : ¬ (3 : Int) < ((l2 : Nat) : Int) := by omega
      have HT3 : Hid (TriedR 3 b1 es1 es2) := ⟨by have := HQ.out.2.1; omega, by have := HQ.out.2.2.1; omega, hv.out⟩
      clear h31 h32 hv; go_wp2_with fail
      go_roundw
      case rel =>
        refine ⟨k + 1, by have := HQ.out.2.2.2; omega, by go_num, fun i y hi hy => ?_, S.below⟩
        by_cases e : i = k
        · subst e
          rw [HQ.out.1] at hy
          cases hy
          exact HT3.out
        · exact hz.out i y (by omega) hy
      case measure => have := HQ.out.2.2.2; simp [intOf]; omega
    · have hki : ¬ (k : Int) < ((n + 1 : Nat) : Int) := by omega
      have hkn : k = n + 1 := by omega
      subst hkn
      obtain ⟨qs', hqs⟩ := allQ_ex (k := 3) (xs := (⟨b, p, q, K, J, ds, es⟩ : RawQ) :: xs) (fun y hy => by
        obtain ⟨i, hi⟩ := List.getElem?_of_mem hy
        have hil : i < n + 1 := by have := (List.getElem?_eq_some_iff.1 hi).1; simpa [HD.out.2.2.2.2] using this
        exact ⟨hz.out i y hil hi, HL.out.dig y hy⟩)
      clear hz hlt hk
      obtain ⟨x, qs, rfl⟩ : ∃ x qs, qs' = x :: qs := by
        cases qs' with
        | nil => exact absurd hqs.1 (by simp)
        | cons x qs => exact ⟨x, qs, rfl⟩
      have hx := hqs.2 0 _ x rfl rfl
      have hqs2 : AllQ 3 xs qs := ⟨by simpa using hqs.1, fun i y r h1 h2 => hqs.2 (i + 1) y r (by simpa using h1) (by simpa using h2)⟩
      have S := HX.out.2.to hB
      have hxi : IsNat wr (.slice p ds.length K) x.num.natAbs ∧ IsNat wr (.slice q es.length J) x.den := hx.2.2 wr (HX.out.1.hold (Hold.of_below hB))
      rw [HD.out.2.2.1, HD.out.2.2.2.1] at hxi
      obtain ⟨n21, d21⟩ := hxi
      have h21 : Hid (negB x.num = b) := hx.1
      have HRQ := Lib.hid (HR.out.rats hqs2)
      have HB := Lib.hid (And.intro hx.2.1 (And.intro hqs2.rb (show qs.length = n by have := hqs2.1; have := HD.out.2.2.2.2; omega)))
      clear hx hqs hqs2 hB; obtain ⟨c0_0, c0_1, c0_2⟩ := S.c3 0 rfl
      obtain ⟨xl, xh, x1, x2, x3, _, _, x4⟩ := near_sp HB.out.1 k5 HK.out.1.1 (by have := HK.out.1.2; omega) (by have := HK.out.1.2; omega)
      have HNX := Lib.hid (And.intro x1 (And.intro x2 x3))
      have HNC := Lib.hid x4
      clear x1 x2 x3 x4; go_wp2_with fail; clear c0_0 c0_1 c0_2
      refine (S.call (HNC.out _ _ (HT.out.below S.below) ⟨b, p, l, K, q, j, J, rfl, h21, n21, d21⟩)).mono ?_
      clear S
      rintro e w21 ⟨⟨_, rfl, b3, p3, l3, K3, m3, e3, b4, p4, l4, K4, m4, e4, rfl, h3, n3, d3, h4, n4, d4⟩, S, H⟩
      replace n21 := n21.hold H; replace d21 := d21.hold H
      clear H; obtain ⟨c0_0, c0_1, c0_2⟩ := S.c3 0 rfl
      have H := S.hnew 29 [.bool b3, .slice p3 l3 K3, .int .i64 e3, .bool b4, .slice p4 l4 K4, .int .i64 e4]
      replace S := S.al 29 [.bool b3, .slice p3 l3 K3, .int .i64 e3, .bool b4, .slice p4 l4 K4, .int .i64 e4] (w21.heap.size)
      refine iv4 H n21 d21 n3 n4 ?_; clear n21 d21 n3 n4; intro n21 d21 n3 n4
      clear H
      have H := S.hnew 29 [.bool false, .slice none 0 0, .int .i64 0, .bool false, .slice none 0 0, .int .i64 0]
      replace S := S.al 29 [.bool false, .slice none 0 0, .int .i64 0, .bool false, .slice none 0 0, .int .i64 0] (w21.heap.size + 1)
      refine iv4 H n21 d21 n3 n4 ?_; clear n21 d21 n3 n4; intro n21 d21 n3 n4
      clear H; clear c0_0 c0_1 c0_2; obtain ⟨c0_0, c0_1, c0_2⟩ := S.c3 0 rfl; go_wp2_with fail
      generalize (.tuple #[.agg #[.bool b3, .slice p3 l3 K3, .int .i64 e3, .bool b4, .slice p4 l4 K4, .int .i64 e4], .int .i64 0] : Value) = g1
      clear c0_0 c0_1 c0_2
      refine (S.call (rzero_any _)).mono ?_
      clear S
      rintro e w22 ⟨⟨_, rfl, b13, p13, l13, K13, q13, j13, J13, rfl, h13, n13, d13⟩, S, H⟩
      refine iv4 H n21 d21 n3 n4 ?_; clear n21 d21 n3 n4; intro n21 d21 n3 n4
      clear H; obtain ⟨c0_0, c0_1, c0_2⟩ := S.c3 0 rfl
      have H := S.hnew 34 [.bool b13, .slice p13 l13 K13, .slice q13 j13 J13]
      replace S := S.al 34 [.bool b13, .slice p13 l13 K13, .slice q13 j13 J13] (w22.heap.size)
      refine iv6 H n21 d21 n3 n4 n13 d13 ?_; clear n21 d21 n3 n4 n13 d13; intro n21 d21 n3 n4 n13 d13
      clear H; clear c0_0 c0_1 c0_2
      have hn8 : ((n : Nat) : Int) ≤ 8 := by have := HK.out.2; omega
      go_wp2_with fail
      generalize w21.heap.size + 1 = bk3 at S ⊢
      generalize w21.heap.size = bk2 at S ⊢
      generalize w22.heap.size = bk4 at S ⊢
      go_loopw [14] (fun si wr => ∃ (m : Nat) (u0 u1 u2 u3 u4 u5 t0 t1 t2 : Value) (y z s : Rat), m ≤ n ∧ si = .int .i64 ((m : Int) - 1) ∧ Hid (y ≤ s ∧ s ≤ z ∧ (DyX y ∧ DyX z) ∧ RB s (7 * (n - m) + 1)) ∧ IsSp wr (.agg #[u0, u1, u2, u3, u4, u5]) y z (400 * (n - m + 1)) (110 * (n - m + 1)) ∧ IsRat wr (.agg #[t0, t1, t2]) s ∧ IsNat wr (.slice p3 l3 K3) m3.natAbs ∧ IsNat wr (.slice p4 l4 K4) m4.natAbs ∧ IsNat wr (.slice p l K) x.num.natAbs ∧ IsNat wr (.slice q j J) x.den ∧ St w wr [(w.heap.size, 34, [.bool b, .slice p l K, .slice q j J]), (bk1, 29, [.bool b1, .slice p1 l1 K1, .int .i64 e1, .bool b2, .slice p2 l2 K2, .int .i64 e2]), (bk2, 29, [.bool b3, .slice p3 l3 K3, .int .i64 e3, .bool b4, .slice p4 l4 K4, .int .i64 e4]), (bk3, 29, [u0, u1, u2, u3, u4, u5]), (bk4, 34, [t0, t1, t2])]) (fun si _ => (intOf si + 1).toNat)
      case atStart =>
        refine ⟨n, _, _, _, _, _, _, _, _, _, 0, 0, 0, Nat.le_refl _, by go_num, ⟨Rat.le_refl, Rat.le_refl, ⟨dyx_zero, dyx_zero⟩, RB.mono rb_zero (by omega)⟩, isSp_zero _ _ _, ⟨b13, p13, l13, K13, q13, j13, J13, rfl, h13, n13, d13⟩, n3, n4, n21, d21, S⟩
      case round =>
        clear S n21 d21 n3 n4 n13 d13 h13
        obtain ⟨m, u0, u1, u2, u3, u4, u5, t0, t1, t2, y, z, s, hm, rfl, hz, hsp, hsr, n3, n4, n21, d21, S⟩ := hrel
        obtain ⟨b11, p11, l11, K11, m11, e11, b12, p12, l12, K12, m12, e12, hv, h11, n11, d11, h12, n12, d12⟩ := hsp
        simp only [Value.agg.injEq, Array.mk.injEq, List.cons.injEq, and_true] at hv
        obtain ⟨rfl, rfl, rfl, rfl, rfl, rfl⟩ := hv
        obtain ⟨b13, p13, l13, K13, q13, j13, J13, hv, h13, n13, d13⟩ := hsr
        simp only [Value.agg.injEq, Array.mk.injEq, List.cons.injEq, and_true] at hv
        obtain ⟨rfl, rfl, rfl⟩ := hv
        have HM := Lib.hid hm
        cases m with
        | zero =>
          obtain ⟨c3_0, c3_1, c3_2, c3_3, c3_4, c3_5⟩ := S.c6 3 rfl; obtain ⟨c4_0, c4_1, c4_2⟩ := S.c3 4 rfl
          have hb : 400 * (n - 0 + 1) ≤ 3600 ∧ 110 * (n - 0 + 1) ≤ 990 ∧ 7 * (n - 0) + 1 ≤ 57 := by have := HK.out.2; omega
          have HF := Lib.hid (And.intro hb (And.intro hz.out.1 (And.intro hz.out.2.1 (hz.out.2.2.2.mono hb.2.2))))
          clear hb hz hm n3 n4; go_wp2_with fail; clear c3_0 c3_1 c3_2 c3_3 c3_4 c3_5 c4_0 c4_1 c4_2
          refine (S.call (shasr_yes (k1 := 144) (k2 := 57) (IsSp.mono ⟨b11, p11, l11, K11, m11, e11, b12, p12, l12, K12, m12, e12, rfl, h11, n11, d11, h12, n12, d12⟩ HF.out.1.1 HF.out.1.2.1) ⟨b13, p13, l13, K13, q13, j13, J13, rfl, h13, n13, d13⟩ (by decide) (by decide) HF.out.2.2.2 (by decide) HF.out.2.1 HF.out.2.2.1)).mono ?_
          clear S
          rintro e w41 ⟨rfl, S, H⟩
          refine iv6 H n11 n12 n13 d13 n21 d21 ?_; clear n11 n12 n13 d13 n21 d21; intro n11 n12 n13 d13 n21 d21
          clear H; obtain ⟨c3_0, c3_1, c3_2, c3_3, c3_4, c3_5⟩ := S.c6 3 rfl; obtain ⟨c4_0, c4_1, c4_2⟩ := S.c3 4 rfl; clear c3_0 c3_1 c3_2 c3_3 c3_4 c3_5 c4_0 c4_1 c4_2; obtain ⟨c3_0, c3_1, c3_2, c3_3, c3_4, c3_5⟩ := S.c6 3 rfl; go_wp2_with fail; clear c3_0 c3_1 c3_2 c3_3 c3_4 c3_5
          refine (S.call (smiddle_any (HT.out.below S.below) (IsSp.mono ⟨b11, p11, l11, K11, m11, e11, b12, p12, l12, K12, m12, e12, rfl, h11, n11, d11, h12, n12, d12⟩ HF.out.1.1 HF.out.1.2.1) (by decide) _ rfl)).mono ?_
          clear S
          rintro e w42 ⟨⟨_, rfl, b16, p16, l16, K16, m16, e16, rfl, h16, n16, d16⟩, S, H⟩
          refine iv6 H n11 n12 n13 d13 n21 d21 ?_; clear n11 n12 n13 d13 n21 d21; intro n11 n12 n13 d13 n21 d21
          clear H; obtain ⟨c3_0, c3_1, c3_2, c3_3, c3_4, c3_5⟩ := S.c6 3 rfl
          have H := S.hnew 27 [.bool b16, .slice p16 l16 K16, .int .i64 e16]
          replace S := S.al 27 [.bool b16, .slice p16 l16 K16, .int .i64 e16] (w42.heap.size)
          refine iv7 H n11 n12 n13 d13 n21 d21 n16 ?_; clear n11 n12 n13 d13 n21 d21 n16; intro n11 n12 n13 d13 n21 d21 n16
          clear H; clear c3_0 c3_1 c3_2 c3_3 c3_4 c3_5; obtain ⟨c3_0, c3_1, c3_2, c3_3, c3_4, c3_5⟩ := S.c6 3 rfl; go_wp2_with fail
          generalize (.tuple #[.agg #[.bool b16, .slice p16 l16 K16, .int .i64 e16], .int .i64 0] : Value) = g1
          clear c3_0 c3_1 c3_2 c3_3 c3_4 c3_5
          refine (S.call (swidth_any (HT.out.below S.below) (IsSp.mono ⟨b11, p11, l11, K11, m11, e11, b12, p12, l12, K12, m12, e12, rfl, h11, n11, d11, h12, n12, d12⟩ HF.out.1.1 HF.out.1.2.1) (by decide) _ rfl)).mono ?_
          clear S
          rintro e w43 ⟨⟨_, rfl, b17, p17, l17, K17, m17, e17, rfl, h17, n17, d17⟩, S, H⟩
          refine iv7 H n11 n12 n13 d13 n21 d21 n16 ?_; clear n11 n12 n13 d13 n21 d21 n16; intro n11 n12 n13 d13 n21 d21 n16
          clear H; obtain ⟨c3_0, c3_1, c3_2, c3_3, c3_4, c3_5⟩ := S.c6 3 rfl
          have H := S.hnew 27 [.bool b17, .slice p17 l17 K17, .int .i64 e17]
          replace S := S.al 27 [.bool b17, .slice p17 l17 K17, .int .i64 e17] (w43.heap.size)
          refine iv8 H n11 n12 n13 d13 n21 d21 n16 n17 ?_; clear n11 n12 n13 d13 n21 d21 n16 n17; intro n11 n12 n13 d13 n21 d21 n16 n17
          clear H; clear c3_0 c3_1 c3_2 c3_3 c3_4 c3_5; obtain ⟨c5_0, c5_1, c5_2⟩ := S.c3 5 rfl; go_wp2_with fail
          generalize (.tuple #[.agg #[.bool b17, .slice p17 l17 K17, .int .i64 e17], .int .i64 0] : Value) = g2
          clear c5_0 c5_1 c5_2
          refine (S.call (dratio_any ⟨b16, p16, l16, K16, m16, e16, rfl, h16, n16, d16⟩ (by decide))).mono ?_
          clear S
          rintro e w44 ⟨⟨_, rfl, b18, p18, l18, K18, q18, j18, J18, rfl, h18, n18, d18⟩, S, H⟩
          refine iv8 H n11 n12 n13 d13 n21 d21 n16 n17 ?_; clear n11 n12 n13 d13 n21 d21 n16 n17; intro n11 n12 n13 d13 n21 d21 n16 n17
          clear H; obtain ⟨c5_0, c5_1, c5_2⟩ := S.c3 5 rfl
          have H := S.hnew 34 [.bool b18, .slice p18 l18 K18, .slice q18 j18 J18]
          replace S := S.al 34 [.bool b18, .slice p18 l18 K18, .slice q18 j18 J18] (w44.heap.size)
          refine iv8 H n11 n12 n13 d13 n21 d21 n16 n17 ?_; clear n11 n12 n13 d13 n21 d21 n16 n17; intro n11 n12 n13 d13 n21 d21 n16 n17; refine iv2 H n18 d18 ?_; clear n18 d18; intro n18 d18
          clear H; clear c5_0 c5_1 c5_2; obtain ⟨c4_0, c4_1, c4_2⟩ := S.c3 4 rfl; obtain ⟨c7_0, c7_1, c7_2⟩ := S.c3 7 rfl
          have hrm : RB ((y + z) * (1 / 2)) 144 := rb_dyad d16.out (by decide) (by decide)
          go_wp2_with fail
          generalize (.tuple #[.agg #[.bool b18, .slice p18 l18 K18, .slice q18 j18 J18], .int .i64 0] : Value) = g3
          clear c4_0 c4_1 c4_2 c7_0 c7_1 c7_2
          refine (S.call (rsub_any ⟨b18, p18, l18, K18, q18, j18, J18, rfl, h18, n18, d18⟩ ⟨b13, p13, l13, K13, q13, j13, J13, rfl, h13, n13, d13⟩ hrm HF.out.2.2.2 (by decide) _ rfl)).mono ?_
          clear S
          rintro e w45 ⟨⟨_, rfl, b19, p19, l19, K19, q19, j19, J19, rfl, h19, n19, d19⟩, S, H⟩
          refine iv8 H n11 n12 n13 d13 n21 d21 n16 n17 ?_; clear n11 n12 n13 d13 n21 d21 n16 n17; intro n11 n12 n13 d13 n21 d21 n16 n17; refine iv2 H n18 d18 ?_; clear n18 d18; intro n18 d18
          clear H; obtain ⟨c4_0, c4_1, c4_2⟩ := S.c3 4 rfl; obtain ⟨c7_0, c7_1, c7_2⟩ := S.c3 7 rfl
          have H := S.hnew 34 [.bool b19, .slice p19 l19 K19, .slice q19 j19 J19]
          replace S := S.al 34 [.bool b19, .slice p19 l19 K19, .slice q19 j19 J19] (w45.heap.size)
          refine iv8 H n11 n12 n13 d13 n21 d21 n16 n17 ?_; clear n11 n12 n13 d13 n21 d21 n16 n17; intro n11 n12 n13 d13 n21 d21 n16 n17; refine iv4 H n18 d18 n19 d19 ?_; clear n18 d18 n19 d19; intro n18 d18 n19 d19
          clear H
          have hro : RB ((y + z) * (1 / 2) - s) 202 := rb_sub hrm HF.out.2.2.2
          have HRO := Lib.hid (And.intro hro (And.intro (rb_max hro (by decide)) (rb_abs' hro)))
          have hcm := held_cmp (held_mid HF.out.2.1 HF.out.2.2.1)
          clear hro hrm; clear c4_0 c4_1 c4_2 c7_0 c7_1 c7_2; clear n11 n12 n13 d13 n21 d21 n16 n18 d18; clear d11 d12 h11 h12 h13 d16 h16 h18
          rcases hcm with hcm | hcm
          ·
            obtain ⟨c4_0, c4_1, c4_2⟩ := S.c3 4 rfl; obtain ⟨c7_0, c7_1, c7_2⟩ := S.c3 7 rfl
            go_upto_region 33 with fail
            clear c4_0 c4_1 c4_2 c7_0 c7_1 c7_2
            replace n17 := n17.hold (Hold.drew _); replace n19 := n19.hold (Hold.drew _); replace d19 := d19.hold (Hold.drew _)
            replace S := S.drew
            refine wp_region_held_drew (S := fun W => W.cell? ⟨w43.heap.size, 0, none⟩ = some (.bool b17) ∧ W.cell? ⟨w43.heap.size, 1, none⟩ = some (.slice p17 l17 K17) ∧ W.cell? ⟨w43.heap.size, 2, none⟩ = some (.int .i64 e17) ∧ W.cell? ⟨w45.heap.size, 0, none⟩ = some (.bool b19) ∧ W.cell? ⟨w45.heap.size, 1, none⟩ = some (.slice p19 l19 K19) ∧ W.cell? ⟨w45.heap.size, 2, none⟩ = some (.slice q19 j19 J19)) (by kernel_rfl) (con3 (S.c3 6 rfl) (S.c3 8 rfl)) (fun hS => ?_)
            refine tk 0 hS ?_
            refine tk 1 hS ?_
            refine rd 2 fun KK hKK => ?_
            go_simp
            refine (S.call (rabs_any ⟨b19, p19, l19, K19, q19, j19, J19, rfl, h19, n19, d19⟩ HRO.out.2.1)).mono ?_; clear S; rintro e w46 ⟨⟨_, rfl, b20, p20, l20, K20, q20, j20, J20, rfl, h20, n20, d20⟩, S, H⟩; refine iv3 H n17 n19 d19 ?_; clear n17 n19 d19; intro n17 n19 d19; clear H
            go_wp2_with fail
            refine ho hKK (con3 (S.c3 6 rfl) (S.c3 8 rfl)) fun hS => ?_
            clear hKK KK
            refine rd 3 fun KK hKK => ?_
            go_simp
            refine (S.call (dcmp_any (k1 := 144) (k2 := 202) ⟨b17, p17, l17, K17, m17, e17, rfl, h17, n17, d17⟩ ⟨b20, p20, l20, K20, q20, j20, J20, rfl, h20, n20, d20⟩ (by decide) (by decide) HRO.out.2.2 (by decide) 1 hcm)).mono ?_; clear S; rintro e w47 ⟨rfl, S, H⟩; refine iv5 H n17 n19 d19 n20 d20 ?_; clear n17 n19 d19 n20 d20; intro n17 n19 d19 n20 d20; clear H
            go_wp2_with fail
            refine ho hKK (con3 (S.c3 6 rfl) (S.c3 8 rfl)) fun hS => ?_
            clear hKK KK
            refine tk 4 hS ?_
            refine tk 5 hS ?_
            refine tk 6 hS ?_
            refine rd 7 fun KK hKK => ?_
            go_simp
            refine ho hKK (con3 (S.c3 6 rfl) (S.c3 8 rfl)) fun hS => ?_
            clear hKK KK
            refine rd 8 fun KK hKK => ?_
            go_simp
            refine ho hKK (con3 (S.c3 6 rfl) (S.c3 8 rfl)) fun hS => ?_
            clear hKK KK
            refine wpAnyH_done (by kernel_rfl) ?_ _
            go_wp2_with fail
            exact bodyPost_ret (v := .bool true) (by simp [results, Tryz.f15, go_sem]) rfl (⟨rfl, S.below⟩)
          ·
            obtain ⟨c4_0, c4_1, c4_2⟩ := S.c3 4 rfl; obtain ⟨c7_0, c7_1, c7_2⟩ := S.c3 7 rfl
            go_upto_region 33 with fail
            clear c4_0 c4_1 c4_2 c7_0 c7_1 c7_2
            replace n17 := n17.hold (Hold.drew _); replace n19 := n19.hold (Hold.drew _); replace d19 := d19.hold (Hold.drew _)
            replace S := S.drew
            refine wp_region_held_drew (S := fun W => W.cell? ⟨w43.heap.size, 0, none⟩ = some (.bool b17) ∧ W.cell? ⟨w43.heap.size, 1, none⟩ = some (.slice p17 l17 K17) ∧ W.cell? ⟨w43.heap.size, 2, none⟩ = some (.int .i64 e17) ∧ W.cell? ⟨w45.heap.size, 0, none⟩ = some (.bool b19) ∧ W.cell? ⟨w45.heap.size, 1, none⟩ = some (.slice p19 l19 K19) ∧ W.cell? ⟨w45.heap.size, 2, none⟩ = some (.slice q19 j19 J19)) (by kernel_rfl) (con3 (S.c3 6 rfl) (S.c3 8 rfl)) (fun hS => ?_)
            refine tk 0 hS ?_
            refine tk 1 hS ?_
            refine rd 2 fun KK hKK => ?_
            go_simp
            refine (S.call (rabs_any ⟨b19, p19, l19, K19, q19, j19, J19, rfl, h19, n19, d19⟩ HRO.out.2.1)).mono ?_; clear S; rintro e w46 ⟨⟨_, rfl, b20, p20, l20, K20, q20, j20, J20, rfl, h20, n20, d20⟩, S, H⟩; refine iv3 H n17 n19 d19 ?_; clear n17 n19 d19; intro n17 n19 d19; clear H
            go_wp2_with fail
            refine ho hKK (con3 (S.c3 6 rfl) (S.c3 8 rfl)) fun hS => ?_
            clear hKK KK
            refine rd 3 fun KK hKK => ?_
            go_simp
            refine (S.call (dcmp_any (k1 := 144) (k2 := 202) ⟨b17, p17, l17, K17, m17, e17, rfl, h17, n17, d17⟩ ⟨b20, p20, l20, K20, q20, j20, J20, rfl, h20, n20, d20⟩ (by decide) (by decide) HRO.out.2.2 (by decide) 0 hcm)).mono ?_; clear S; rintro e w47 ⟨rfl, S, H⟩; refine iv5 H n17 n19 d19 n20 d20 ?_; clear n17 n19 d19 n20 d20; intro n17 n19 d19 n20 d20; clear H
            go_wp2_with fail
            refine ho hKK (con3 (S.c3 6 rfl) (S.c3 8 rfl)) fun hS => ?_
            clear hKK KK
            refine tk 4 hS ?_
            refine tk 5 hS ?_
            refine tk 6 hS ?_
            refine rd 7 fun KK hKK => ?_
            go_simp
            refine ho hKK (con3 (S.c3 6 rfl) (S.c3 8 rfl)) fun hS => ?_
            clear hKK KK
            refine rd 8 fun KK hKK => ?_
            go_simp
            refine ho hKK (con3 (S.c3 6 rfl) (S.c3 8 rfl)) fun hS => ?_
            clear hKK KK
            refine wpAnyH_done (by kernel_rfl) ?_ _
            go_wp2_with fail
            exact bodyPost_ret (v := .bool true) (by simp [results, Tryz.f15, go_sem]) rfl (⟨rfl, S.below⟩)
        | succ i =>
          obtain ⟨k, hnk⟩ : ∃ k, n - (i + 1) = k := ⟨_, rfl⟩
          have hk7 : k ≤ 7 ∧ n - i = k + 1 := by have := HK.out.2; omega
          rw [hnk] at d11 d12 hz
          obtain ⟨g, off, t, v0, v1, v2, rfl, hg, hqt, a0, a1, a2, b14, p14, l14, K14, q14, j14, J14, rfl, rfl, rfl, h14, n14, d14⟩ := HRQ.out.get (j := i) (by omega)
          have HG := Lib.hid (And.intro hg (And.intro a0 (And.intro a1 a2)))
          replace a0 := (S.below.cell (p := ⟨g, off + i * 3, none⟩) hg).trans a0
          replace a1 := (S.below.cell (p := ⟨g, off + i * 3 + 1, none⟩) hg).trans a1
          replace a2 := (S.below.cell (p := ⟨g, off + i * 3 + 2, none⟩) hg).trans a2
          replace n14 := n14.below S.below (Nat.le_refl _); replace d14 := d14.below S.below (Nat.le_refl _)
          obtain ⟨c0_0, c0_1, c0_2⟩ := S.c3 0 rfl
          obtain ⟨tl, th, y1, y2, y3, _, _, y4⟩ := near_sp (HB.out.2.1 t (List.mem_of_getElem? hqt)) k5 HK.out.1.1 (by have := HK.out.1.2; omega) (by have := HK.out.1.2; omega)
          have HTX := Lib.hid (And.intro y1 (And.intro y2 (And.intro y3 (And.intro (HB.out.2.1 t (List.mem_of_getElem? hqt)) (And.intro hk7 (And.intro hnk hm))))))
          have HTC := Lib.hid y4
          have hii : (0 : Int) ≤ ((i : Nat) : Int) := by omega
          have hin : ((i : Nat) : Int) < ((n : Nat) : Int) := by omega
          have hsi : (((i + 1 : Nat) : Int) - 1) = ((i : Nat) : Int) := by omega
          rw [hsi]
          clear y1 y2 y3 y4 hqt hm hsi hg hk7 hnk; go_wp2_with fail; clear c0_0 c0_1 c0_2
          refine (S.call (HTC.out _ _ (HT.out.below S.below) ⟨b14, p14, l14, K14, q14, j14, J14, rfl, h14, n14, d14⟩)).mono ?_
          clear S
          rintro e w41 ⟨⟨_, rfl, b5, p5, l5, K5, m5, e5, b6, p6, l6, K6, m6, e6, rfl, h5, n5, d5, h6, n6, d6⟩, S, H⟩
          refine iv8 H n11 n12 n13 d13 n3 n4 n21 d21 ?_; clear n11 n12 n13 d13 n3 n4 n21 d21; intro n11 n12 n13 d13 n3 n4 n21 d21; refine iv2 H n14 d14 ?_; clear n14 d14; intro n14 d14
          clear H; obtain ⟨c0_0, c0_1, c0_2⟩ := S.c3 0 rfl; clear a0 a1 a2
          have H := S.hnew 29 [.bool b5, .slice p5 l5 K5, .int .i64 e5, .bool b6, .slice p6 l6 K6, .int .i64 e6]
          replace S := S.al 29 [.bool b5, .slice p5 l5 K5, .int .i64 e5, .bool b6, .slice p6 l6 K6, .int .i64 e6] (w41.heap.size)
          refine iv8 H n11 n12 n13 d13 n3 n4 n21 d21 ?_; clear n11 n12 n13 d13 n3 n4 n21 d21; intro n11 n12 n13 d13 n3 n4 n21 d21; refine iv4 H n14 d14 n5 n6 ?_; clear n14 d14 n5 n6; intro n14 d14 n5 n6
          clear H; clear c0_0 c0_1 c0_2; obtain ⟨c2_0, c2_1, c2_2, c2_3, c2_4, c2_5⟩ := S.c6 2 rfl; obtain ⟨c3_0, c3_1, c3_2, c3_3, c3_4, c3_5⟩ := S.c6 3 rfl; go_wp2_with fail
          generalize (.tuple #[.agg #[.bool b5, .slice p5 l5 K5, .int .i64 e5, .bool b6, .slice p6 l6 K6, .int .i64 e6], .int .i64 0] : Value) = g1
          clear c2_0 c2_1 c2_2 c2_3 c2_4 c2_5 c3_0 c3_1 c3_2 c3_3 c3_4 c3_5
          refine (S.call (smul_gen (HT.out.below S.below) ⟨b11, p11, l11, K11, m11, e11, b12, p12, l12, K12, m12, e12, rfl, h11, n11, d11, h12, n12, d12⟩ (near_mono ⟨b3, p3, l3, K3, m3, e3, b4, p4, l4, K4, m4, e4, rfl, h3, n3, d3, h4, n4, d4⟩ (by have := HK.out.1.2; omega)) (by have := HTX.out.2.2.2.2.1.1; omega) k5 HK.out.1.1 (by have := HK.out.1.2; omega) _ _ rfl rfl)).mono ?_
          clear S
          rintro e w42 ⟨⟨_, rfl, b7, p7, l7, K7, m7, e7, b8, p8, l8, K8, m8, e8, rfl, h7, n7, d7, h8, n8, d8⟩, S, H⟩
          refine iv8 H n11 n12 n13 d13 n3 n4 n21 d21 ?_; clear n11 n12 n13 d13 n3 n4 n21 d21; intro n11 n12 n13 d13 n3 n4 n21 d21; refine iv4 H n14 d14 n5 n6 ?_; clear n14 d14 n5 n6; intro n14 d14 n5 n6
          clear H; obtain ⟨c2_0, c2_1, c2_2, c2_3, c2_4, c2_5⟩ := S.c6 2 rfl; obtain ⟨c3_0, c3_1, c3_2, c3_3, c3_4, c3_5⟩ := S.c6 3 rfl
          have H := S.hnew 29 [.bool b7, .slice p7 l7 K7, .int .i64 e7, .bool b8, .slice p8 l8 K8, .int .i64 e8]
          replace S := S.al 29 [.bool b7, .slice p7 l7 K7, .int .i64 e7, .bool b8, .slice p8 l8 K8, .int .i64 e8] (w42.heap.size)
          refine iv8 H n11 n12 n13 d13 n3 n4 n21 d21 ?_; clear n11 n12 n13 d13 n3 n4 n21 d21; intro n11 n12 n13 d13 n3 n4 n21 d21; refine iv6 H n14 d14 n5 n6 n7 n8 ?_; clear n14 d14 n5 n6 n7 n8; intro n14 d14 n5 n6 n7 n8
          clear H; clear c2_0 c2_1 c2_2 c2_3 c2_4 c2_5 c3_0 c3_1 c3_2 c3_3 c3_4 c3_5; obtain ⟨c5_0, c5_1, c5_2, c5_3, c5_4, c5_5⟩ := S.c6 5 rfl; obtain ⟨c6_0, c6_1, c6_2, c6_3, c6_4, c6_5⟩ := S.c6 6 rfl; go_wp2_with fail
          generalize (.tuple #[.agg #[.bool b7, .slice p7 l7 K7, .int .i64 e7, .bool b8, .slice p8 l8 K8, .int .i64 e8], .int .i64 0] : Value) = g2
          clear c5_0 c5_1 c5_2 c5_3 c5_4 c5_5 c6_0 c6_1 c6_2 c6_3 c6_4 c6_5
          refine (S.call (sadd_any (L := 400 * (k + 1) + 392) (H := 110 * (k + 1) + 100) (HT.out.below S.below) (IsSp.mono ⟨b7, p7, l7, K7, m7, e7, b8, p8, l8, K8, m8, e8, rfl, h7, n7, d7, h8, n8, d8⟩ (by omega) (by omega)) (IsSp.mono ⟨b5, p5, l5, K5, m5, e5, b6, p6, l6, K6, m6, e6, rfl, h5, n5, d5, h6, n6, d6⟩ (by have := HK.out.1.2; omega) (by omega)) (by have := HTX.out.2.2.2.2.1.1; omega) k5 HK.out.1.1 (by have := HK.out.1.2; omega))).mono ?_
          clear S
          rintro e w43 ⟨⟨_, rfl, b9, p9, l9, K9, m9, e9, b10, p10, l10, K10, m10, e10, rfl, h9, n9, d9, h10, n10, d10⟩, S, H⟩
          refine iv8 H n11 n12 n13 d13 n3 n4 n21 d21 ?_; clear n11 n12 n13 d13 n3 n4 n21 d21; intro n11 n12 n13 d13 n3 n4 n21 d21; refine iv6 H n14 d14 n5 n6 n7 n8 ?_; clear n14 d14 n5 n6 n7 n8; intro n14 d14 n5 n6 n7 n8
          clear H; obtain ⟨c5_0, c5_1, c5_2, c5_3, c5_4, c5_5⟩ := S.c6 5 rfl; obtain ⟨c6_0, c6_1, c6_2, c6_3, c6_4, c6_5⟩ := S.c6 6 rfl
          have H := S.hnew 29 [.bool b9, .slice p9 l9 K9, .int .i64 e9, .bool b10, .slice p10 l10 K10, .int .i64 e10]
          replace S := S.al 29 [.bool b9, .slice p9 l9 K9, .int .i64 e9, .bool b10, .slice p10 l10 K10, .int .i64 e10] (w43.heap.size)
          refine iv8 H n11 n12 n13 d13 n3 n4 n21 d21 ?_; clear n11 n12 n13 d13 n3 n4 n21 d21; intro n11 n12 n13 d13 n3 n4 n21 d21; refine iv8 H n14 d14 n5 n6 n7 n8 n9 n10 ?_; clear n14 d14 n5 n6 n7 n8 n9 n10; intro n14 d14 n5 n6 n7 n8 n9 n10
          clear H; clear n5 n6 n7 n8 n11 n12; clear h5 h6 h7 h8 h11 h12 d5 d6 d7 d8 d11 d12; clear c5_0 c5_1 c5_2 c5_3 c5_4 c5_5 c6_0 c6_1 c6_2 c6_3 c6_4 c6_5; obtain ⟨c3_0, c3_1, c3_2, c3_3, c3_4, c3_5⟩ := S.c6 3 rfl; obtain ⟨c7_0, c7_1, c7_2, c7_3, c7_4, c7_5⟩ := S.c6 7 rfl
          obtain ⟨f3_0, f3_1, f3_2, f3_3, f3_4, f3_5⟩ := S.f6 3 rfl
          have HP := S.put6 3 (.bool b9) (.slice p9 l9 K9) (.int .i64 e9) (.bool b10) (.slice p10 l10 K10) (.int .i64 e10) rfl rfl; have H := HP.2; replace S := HP.1; clear HP
          refine iw8 H n13 d13 n3 n4 n21 d21 n14 d14 ?_; clear n13 d13 n3 n4 n21 d21 n14 d14; intro n13 d13 n3 n4 n21 d21 n14 d14; refine iw2 H n9 n10 ?_; clear n9 n10; intro n9 n10
          clear H; obtain ⟨k0, k1, k2⟩ := S.c3 0 rfl; obtain ⟨k3, k4, k6⟩ := S.c3 4 rfl
          have hrs : RB s (7 * k + 1) := hz.out.2.2.2
          go_wp2_with fail
          generalize (.tuple #[.agg #[.bool b9, .slice p9 l9 K9, .int .i64 e9, .bool b10, .slice p10 l10 K10, .int .i64 e10], .int .i64 0] : Value) = g3
          clear c3_0 c3_1 c3_2 c3_3 c3_4 c3_5 c7_0 c7_1 c7_2 c7_3 c7_4 c7_5 f3_0 f3_1 f3_2 f3_3 f3_4 f3_5
          refine (S.call (rmul_any ⟨b13, p13, l13, K13, q13, j13, J13, rfl, h13, n13, d13⟩ ⟨b, p, l, K, q, j, J, rfl, h21, n21, d21⟩ hrs HB.out.1 (by have := HTX.out.2.2.2.2.1.1; omega) _ rfl)).mono ?_
          clear S
          rintro e w44 ⟨⟨_, rfl, b15, p15, l15, K15, q15, j15, J15, rfl, h15, n15, d15⟩, S, H⟩
          refine iv8 H n13 d13 n3 n4 n21 d21 n14 d14 ?_; clear n13 d13 n3 n4 n21 d21 n14 d14; intro n13 d13 n3 n4 n21 d21 n14 d14; refine iv2 H n9 n10 ?_; clear n9 n10; intro n9 n10
          clear H; clear k0 k1 k2 k3 k4 k6; clear n13 d13; clear h13; obtain ⟨c4_0, c4_1, c4_2⟩ := S.c3 4 rfl
          obtain ⟨f4_0, f4_1, f4_2⟩ := S.f3 4 rfl
          have HP := S.putq 4 (.bool b15) (.slice p15 l15 K15) (.slice q15 j15 J15) rfl rfl; have H := HP.2; replace S := HP.1; clear HP
          refine iv8 H n3 n4 n21 d21 n14 d14 n9 n10 ?_; clear n3 n4 n21 d21 n14 d14 n9 n10; intro n3 n4 n21 d21 n14 d14 n9 n10; refine iv2 H n15 d15 ?_; clear n15 d15; intro n15 d15
          clear H
          go_upto_region 27 with fail
          clear c4_0 c4_1 c4_2 f4_0 f4_1 f4_2
          replace n9 := n9.hold (Hold.drew _); replace n10 := n10.hold (Hold.drew _); replace n3 := n3.hold (Hold.drew _); replace n4 := n4.hold (Hold.drew _); replace n21 := n21.hold (Hold.drew _); replace d21 := d21.hold (Hold.drew _); replace n14 := n14.hold (Hold.drew _); replace d14 := d14.hold (Hold.drew _); replace n15 := n15.hold (Hold.drew _); replace d15 := d15.hold (Hold.drew _)
          replace S := S.drew
          refine wp_region_held_drew (S := fun W => W.cell? ⟨g, off + i * 3, none⟩ = some (.bool b14) ∧ W.cell? ⟨g, off + i * 3 + 1, none⟩ = some (.slice p14 l14 K14) ∧ W.cell? ⟨g, off + i * 3 + 2, none⟩ = some (.slice q14 j14 J14)) (by kernel_rfl) ⟨(S.below.cell (p := ⟨g, off + i * 3, none⟩) HG.out.1).trans HG.out.2.1, (S.below.cell (p := ⟨g, off + i * 3 + 1, none⟩) HG.out.1).trans HG.out.2.2.1, (S.below.cell (p := ⟨g, off + i * 3 + 2, none⟩) HG.out.1).trans HG.out.2.2.2⟩ (fun hS => ?_)
          refine tk 1 hS ?_
          refine tk 2 hS ?_
          refine tk 3 hS ?_
          refine tk 4 hS ?_
          obtain ⟨c4_0, c4_1, c4_2⟩ := S.c3 4 rfl
          refine rd 0 fun KK hKK => ?_
          go_simp; clear c4_0 c4_1 c4_2
          refine ho hKK ⟨(S.below.cell (p := ⟨g, off + i * 3, none⟩) HG.out.1).trans HG.out.2.1, (S.below.cell (p := ⟨g, off + i * 3 + 1, none⟩) HG.out.1).trans HG.out.2.2.1, (S.below.cell (p := ⟨g, off + i * 3 + 2, none⟩) HG.out.1).trans HG.out.2.2.2⟩ fun hS => ?_
          clear hKK KK
          refine rd 5 fun KK hKK => ?_
          go_simp; clear hS
          have hrm : RB (s * x) (7 * k + 1 + 3) := rb_mul hz.out.2.2.2 HB.out.1
          refine (S.call (radd_any ⟨b15, p15, l15, K15, q15, j15, J15, rfl, h15, n15, d15⟩ ⟨b14, p14, l14, K14, q14, j14, J14, rfl, h14, n14, d14⟩ hrm HTX.out.2.2.2.1 (by have := HTX.out.2.2.2.2.1.1; omega) _ rfl)).mono ?_
          clear S
          rintro e w60 ⟨⟨_, rfl, b23, p23, l23, K23, q23, j23, J23, rfl, h23, n23, d23⟩, S, H⟩
          refine iv8 H n9 n10 n3 n4 n21 d21 n14 d14 ?_; clear n9 n10 n3 n4 n21 d21 n14 d14; intro n9 n10 n3 n4 n21 d21 n14 d14; refine iv2 H n15 d15 ?_; clear n15 d15; intro n15 d15
          clear H; go_wp2_with fail
          refine ho hKK ⟨(S.below.cell (p := ⟨g, off + i * 3, none⟩) HG.out.1).trans HG.out.2.1, (S.below.cell (p := ⟨g, off + i * 3 + 1, none⟩) HG.out.1).trans HG.out.2.2.1, (S.below.cell (p := ⟨g, off + i * 3 + 2, none⟩) HG.out.1).trans HG.out.2.2.2⟩ fun hS => ?_
          clear hKK KK
          refine tk 6 hS ?_
          refine tk 7 hS ?_
          refine tk 8 hS ?_
          clear n14 d14 n15 d15 h14 h15; obtain ⟨c4_0, c4_1, c4_2⟩ := S.c3 4 rfl
          obtain ⟨f4_0, f4_1, f4_2⟩ := S.f3 4 rfl
          refine rd 9 fun KK hKK => ?_
          have HP := S.putq 4 (.bool b23) (.slice p23 l23 K23) (.slice q23 j23 J23) rfl rfl
          go_simp
          have H := HP.2; replace S := HP.1; clear HP c4_0 c4_1 c4_2 f4_0 f4_1 f4_2 hS
          refine iv8 H n9 n10 n3 n4 n21 d21 n23 d23 ?_; clear n9 n10 n3 n4 n21 d21 n23 d23; intro n9 n10 n3 n4 n21 d21 n23 d23
          clear H
          refine ho hKK ⟨(S.below.cell (p := ⟨g, off + i * 3, none⟩) HG.out.1).trans HG.out.2.1, (S.below.cell (p := ⟨g, off + i * 3 + 1, none⟩) HG.out.1).trans HG.out.2.2.1, (S.below.cell (p := ⟨g, off + i * 3 + 2, none⟩) HG.out.1).trans HG.out.2.2.2⟩ fun hS => ?_
          clear hKK KK
          refine wpAnyH_done (by kernel_rfl) ?_ _
          clear hS
          replace S := S.take 5 rfl
          go_wp2_with fail
          go_roundw
          case rel =>
            obtain ⟨z1, z2, ⟨z3, z4⟩, z5⟩ := hz.out
            obtain ⟨t1, t2, ⟨t3, t4⟩, t5, ⟨t6, t7⟩, _, t8⟩ := HTX.out
            obtain ⟨x1, x2, x3, x4⟩ := HNX.out
            obtain ⟨i1, i2⟩ := in_mul z3 z4 x3 x4 z1 z2 x1 x2 k5
            have e1 : DyX (rq (loM y z xl xh) k5 false) := rq_dyx (loM_dyx z3 z4 x3 x4) k5 false
            have e2 : DyX (rq (hiM y z xl xh) k5 true) := rq_dyx (hiM_dyx z3 z4 x3 x4) k5 true
            obtain ⟨i3, i4⟩ := in_add e1 e2 t3 t4 i1 i2 t1 t2 k5
            refine ⟨i, _, _, _, _, _, _, _, _, _, _, _, s * x + t, by omega, by go_num, ⟨i3, i4, ⟨rq_dyx (e1.add t3) k5 false, rq_dyx (e2.add t4) k5 true⟩, (rb_add (rb_mul z5 HB.out.1) t5).mono (by omega)⟩, IsSp.mono ⟨b9, p9, l9, K9, m9, e9, b10, p10, l10, K10, m10, e10, rfl, h9, n9, d9, h10, n10, d10⟩ (by omega) (by omega), ⟨b23, p23, l23, K23, q23, j23, J23, rfl, h23, n23, d23⟩, n3, n4, n21, d21, S⟩
          case measure => simp [intOf]
end Go.Proofs.YtfnlmiajpledfaaGreatDoor
