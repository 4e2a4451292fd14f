/-
  What the statement stands on.
-/
import Derived.Test.YtcfgefbkeeedgaaGreatDoorM25
import Derived.Test.YtcfgefbkeeedgaaGreatDoorM26
import Derived.Test.YtcfgefbkeeedgaaGreatDoorM31
import Derived.Test.YtcfgefbkeeedgaaGreatDoorM39
import Derived.Test.YtcfgefbkeeedgaaGreatDoorM40
namespace Go.Proofs.YtcfgefbkeeedgaaGreatDoor
open Go.RowKit
theorem near_holds {qs : List Rat} {n : Nat} (h2 : 2 ≤ n) : ∀ (j : Nat) (x : Rat × Rat) (y : Rat), (qs.map (nearQ n))[j]? = some x → qs[j]? = some y → x.1 ≤ y ∧ y ≤ x.2 := fun j x y h1 h3 => by
  rw [List.getElem?_map, h3] at h1
  cases h1
  have := nearQ_in y h2
  exact ⟨this.1, this.2.1⟩
theorem plus_holds {qs rs : List Rat} {n : Nat} (h2 : 2 ≤ n) : ∀ (j : Nat) (x : Rat × Rat) (y : Rat), (List.zipWith (spA n) (qs.map (nearQ n)) (rs.map (nearQ n)))[j]? = some x → (List.zipWith (· + ·) qs rs)[j]? = some y → x.1 ≤ y ∧ y ≤ x.2 := fun j x y h1 h3 => by
  rw [List.getElem?_zipWith] at h1 h3
  rw [List.getElem?_map, List.getElem?_map] at h1
  cases hq : qs[j]? with
  | none => rw [hq] at h3; simp at h3
  | some q =>
    cases hr : rs[j]? with
    | none => rw [hq, hr] at h3; simp at h3
    | some r =>
      rw [hq, hr] at h1 h3
      simp at h1 h3
      subst h1 h3
      obtain ⟨a1, a2, a3, a4⟩ := nearQ_in q h2
      obtain ⟨b1, b2, b3, b4⟩ := nearQ_in r h2
      exact in_add a3 a4 b3 b4 a1 a2 b1 b2 n
theorem foldA_in (n : Nat) : ∀ (xs : List (Rat × Rat)) (zs : List Rat) (a : Rat × Rat) (s : Rat), xs.length = zs.length → (∀ (j : Nat) x z, xs[j]? = some x → zs[j]? = some z → x.1 ≤ z ∧ z ≤ x.2 ∧ DyX x.1 ∧ DyX x.2) → a.1 ≤ s → s ≤ a.2 → DyX a.1 → DyX a.2 → (foldA n a xs).1 ≤ s + sumL zs ∧ s + sumL zs ≤ (foldA n a xs).2
  | [], [], a, s, _, _, h1, h2, _, _ => by simp only [foldA, sumL, Rat.add_zero]; exact ⟨h1, h2⟩
  | x :: xs, z :: zs, a, s, hl, h, h1, h2, d1, d2 => by
    obtain ⟨k1, k2, k3, k4⟩ := h 0 x z rfl rfl
    have hi := in_add d1 d2 k3 k4 h1 h2 k1 k2 n
    have ih := foldA_in n xs zs (spA n a x) (s + z) (by simpa using hl) (fun j x z hx hz => h (j + 1) x z (by simpa using hx) (by simpa using hz)) hi.1 hi.2 (rq_dyx (d1.add k3) n false) (rq_dyx (d2.add k4) n true)
    simp only [foldA, sumL]
    rwa [show s + (z + sumL zs) = s + z + sumL zs by grind]
theorem inner_holds {qs rs : List Rat} {n : Nat} (h2 : 2 ≤ n) (hl : qs.length = rs.length) : (innerL n (qs.map (nearQ n)) (rs.map (nearQ n))).1 ≤ dotL qs rs ∧ dotL qs rs ≤ (innerL n (qs.map (nearQ n)) (rs.map (nearQ n))).2 := by
  have hall : ∀ (j : Nat) x z, (List.zipWith (spM n) (qs.map (nearQ n)) (rs.map (nearQ n)))[j]? = some x → (List.zipWith (· * ·) qs rs)[j]? = some z → x.1 ≤ z ∧ z ≤ x.2 ∧ DyX x.1 ∧ DyX x.2 := fun j x z h1 h3 => by
    rw [List.getElem?_zipWith] at h1 h3
    rw [List.getElem?_map, List.getElem?_map] at h1
    cases hq : qs[j]? with
    | none => rw [hq] at h3; simp at h3
    | some q =>
      cases hr : rs[j]? with
      | none => rw [hq, hr] at h3; simp at h3
      | some r =>
        rw [hq, hr] at h1 h3
        simp at h1 h3
        subst h1 h3
        obtain ⟨a1, a2, a3, a4⟩ := nearQ_in q h2
        obtain ⟨b1, b2, b3, b4⟩ := nearQ_in r h2
        have hm := in_mul a3 a4 b3 b4 a1 a2 b1 b2 n
        exact ⟨hm.1, hm.2, rq_dyx (loM_dyx a3 a4 b3 b4) n false, rq_dyx (hiM_dyx a3 a4 b3 b4) n true⟩
  unfold innerL dotL
  have hlen : (List.zipWith (spM n) (qs.map (nearQ n)) (rs.map (nearQ n))).length = (List.zipWith (· * ·) qs rs).length := by simp
  generalize List.zipWith (spM n) (qs.map (nearQ n)) (rs.map (nearQ n)) = xs at hall hlen ⊢
  generalize List.zipWith (· * ·) qs rs = zs at hall hlen ⊢
  cases xs with
  | nil =>
    cases zs with
    | nil => exact ⟨Rat.le_refl, Rat.le_refl⟩
    | cons z zs => simp at hlen
  | cons x xs =>
    cases zs with
    | nil => simp at hlen
    | cons z zs =>
      obtain ⟨k1, k2, k3, k4⟩ := hall 0 x z rfl rfl
      exact foldA_in n xs zs x z (by simpa using hlen) (fun j x z hx hz => hall (j + 1) x z (by simpa using hx) (by simpa using hz)) k1 k2 k3 k4
theorem norm_step : ∀ (xs : List (Rat × Rat)) (m : Rat), m ≤ xs.foldl (fun m x => max2 m (max2 x.1.abs x.2.abs)) m
  | [], _ => Rat.le_refl
  | x :: xs, m => Rat.le_trans (max2_ge m _).1 (norm_step xs _)
theorem norm_ge : ∀ (xs : List (Rat × Rat)) (m : Rat) (j : Nat) (x : Rat × Rat), xs[j]? = some x → max2 x.1.abs x.2.abs ≤ xs.foldl (fun m x => max2 m (max2 x.1.abs x.2.abs)) m
  | [], _, _, _, h => by simp at h
  | y :: xs, m, 0, x, h => by simp at h; subst h; exact Rat.le_trans (max2_ge m _).2 (norm_step xs _)
  | y :: xs, m, j + 1, x, h => norm_ge xs _ j x (by simpa using h)
theorem norm_holds {qs : List Rat} {n j : Nat} {q : Rat} (h2 : 2 ≤ n) (h : qs[j]? = some q) : q.abs ≤ normS (qs.map (nearQ n)) := by
  have h1 := norm_ge (qs.map (nearQ n)) 0 j (nearQ n q) (by rw [List.getElem?_map, h]; rfl)
  obtain ⟨a1, a2, _, _⟩ := nearQ_in q h2
  refine Rat.le_trans ?_ h1
  have h3 := max2_ge (nearQ n q).1.abs (nearQ n q).2.abs
  rcases Rat.le_total (a := 0) (b := q) with h0 | h0
  · refine Rat.le_trans ?_ h3.2
    rw [Rat.abs_of_nonneg h0, Rat.abs_of_nonneg (Rat.le_trans h0 a2)]; exact a2
  · refine Rat.le_trans ?_ h3.1
    rw [Rat.abs_of_nonpos h0, Rat.abs_of_nonpos (Rat.le_trans a1 h0)]; grind
theorem cmpR_ge0 {a b : Rat} (h : b ≤ a) : ¬ cmpR a b < 0 := by
  rcases rat_three a b with h1 | h1 | h1
  · exact absurd h1 (by grind)
  · subst h1; rw [cmpR_eq]; decide
  · rw [cmpR_gt h1]; decide
theorem rb_absL {x : Rat} {k : Nat} (h : RB x k) : RB x.abs k := by
  rcases Rat.le_total (a := 0) (b := x) with h0 | h0
  · rw [Rat.abs_of_nonneg h0]; exact h
  · rw [Rat.abs_of_nonpos h0]; exact rb_neg h
set_option maxRecDepth 100000 in
set_option maxHeartbeats 16000000 in
theorem vecHolds_any (va : Value) (xsa : List RawQ) (vb : Value) (xsb : List RawQ) (f : Int) (w : World) (hT : Tab w) (hRa : Raws w va xsa) (hRb : Raws w vb xsb) (hf0 : -9223372036854775808 ≤ f) (hf1 : f ≤ 9223372036854775807) :
    Calls Tryz.prog 7 #[va, vb, .int .i64 f] w fun e w' => e = .returned (.bool true) ∧ Below w.heap.size w w' := by
  have HT := Lib.hid hT
  obtain ⟨pa, ca, rfl⟩ := hRa.form
  obtain ⟨na, hna⟩ : ∃ n, xsa.length = n := ⟨_, rfl⟩
  rw [hna] at hRa
  have HRa := Lib.hid (And.intro hRa hna)
  rw [hna]
  obtain ⟨pb, cb, rfl⟩ := hRb.form
  obtain ⟨nb, hnb⟩ : ∃ n, xsb.length = n := ⟨_, rfl⟩
  rw [hnb] at hRb
  have HRb := Lib.hid (And.intro hRb hnb)
  rw [hnb]
  clear hf0 hf1; clear hT hRa hRb hna hnb
  have S := St.start w
  go_enter Tryz.func7, Tryz.ntmps7
  go_wp2_with fail
  refine (S.call (points_any _ (HT.out.below S.below))).mono ?_
  clear S
  rintro e w1 ⟨rfl, S, H⟩
  clear H
  have H := S.hnew 55 [.slice pa na ca, .slice pb nb cb]
  replace S := S.al 55 [.slice pa na ca, .slice pb nb cb] (w1.heap.size)
  clear H; go_wp2_with fail
  refine (S.call (vfit_any _ 2 (.slice pa na ca) xsa [(.slice pb nb cb, xsb)] _ (rawll2 S 0 rfl (HRa.out.1.to S.below) (HRb.out.1.to S.below)) rfl (by decide))).mono ?_
  clear S
  rintro e w2 ⟨⟨ok, rfl, hok⟩, S, H⟩
  clear H
  cases ok with
  | false =>
    go_wp2_with fail
    exact bodyPost_ret (v := .bool true) (by simp [results, Tryz.f7, go_sem]) rfl (⟨rfl, S.below⟩)
  | true =>
    have hfa := hok.out rfl 0 _ _ rfl
    have hfb := hok.out rfl 1 _ _ rfl
    rw [HRa.out.2] at hfa hfb
    obtain ⟨qa, ra, la, ba, _⟩ := hfa.list HRa.out.1
    obtain ⟨qb, rb, lb, bb, _⟩ := hfb.list HRb.out.1
    have hnb : nb = na := by rw [← HRb.out.2]; exact hfb.1
    subst hnb
    have HA := Lib.hid (And.intro ra (And.intro la ba))
    have HB := Lib.hid (And.intro rb (And.intro lb bb))
    clear hok hfa hfb ra la ba rb lb bb
    by_cases h6 : 6 < nb
    · have h6' : (6 : Int) < ((nb : Nat) : Int) := by omega
      go_wp2_with fail
      exact bodyPost_ret (v := .bool true) (by simp [results, Tryz.f7, go_sem]) rfl (⟨rfl, S.below⟩)
    have h6' : ¬ (6 : Int) < ((nb : Nat) : Int) := by omega
    by_cases h2 : f < 2
    · skip
      go_wp2_with fail
      exact bodyPost_ret (v := .bool true) (by simp [results, Tryz.f7, go_sem]) rfl (⟨rfl, S.below⟩)
    skip
    by_cases h3 : 300 < f
    · skip
      go_wp2_with fail
      exact bodyPost_ret (v := .bool true) (by simp [results, Tryz.f7, go_sem]) rfl (⟨rfl, S.below⟩)
    skip
    obtain ⟨k, hk⟩ : ∃ k : Nat, (k : Int) = f := ⟨f.toNat, by omega⟩
    subst hk
    have HK := Lib.hid (show 2 ≤ k ∧ k ≤ 300 ∧ k ≤ 4096 ∧ nb ≤ 6 ∧ nb ≤ 1000000 by omega)
    have hn9 : ((nb : Nat) : Int) ≤ 6 := by omega
    replace S := S.take 0 (L := []) rfl
    go_wp2_with fail
    have HIN := S.ins
    refine (S.call (vnear_any (HT.out.below S.below) (HA.out.1.to S.below) nb HA.out.2.1 HK.out.2.2.2.2 (k := 5) HA.out.2.2 k HK.out.1 HK.out.2.2.1 (by have := HK.out; omega))).mono ?_
    clear S
    rintro e w10 ⟨⟨_, rfl, g3, vs3, rfl, hg, hh, r3⟩, S, H⟩
    clear H
    rw [show (qa.map (nearQ k)).length = nb from by rw [List.length_map]; exact HA.out.2.1]
    replace S := S.adoptF HIN hg hh
    try simp only [List.cons_append, List.nil_append] at S
    clear HIN hg hh; go_wp2_with fail
    have HIN := S.ins
    refine (S.call (vnear_any (HT.out.below S.below) (HB.out.1.to S.below) nb HB.out.2.1 HK.out.2.2.2.2 (k := 5) HB.out.2.2 k HK.out.1 HK.out.2.2.1 (by have := HK.out; omega))).mono ?_
    clear S
    rintro e w11 ⟨⟨_, rfl, g4, vs4, rfl, hg, hh, r4⟩, S, H⟩
    replace r3 := r3.hold H; clear H
    rw [show (qb.map (nearQ k)).length = nb from by rw [List.length_map]; exact HB.out.2.1]
    replace S := S.adoptF HIN hg hh
    try simp only [List.cons_append, List.nil_append] at S
    clear HIN hg hh
    replace r3 : SL _ 620 163 vs3 _ := r3.mono (by have := HK.out; omega) (by decide)
    replace r4 : SL _ 620 163 vs4 _ := r4.mono (by have := HK.out; omega) (by decide)
    go_wp2_with fail
    have HIN := S.ins
    refine (S.call (vplus_any (HT.out.below S.below) (S.spans 0 rfl r3 (n := nb) (c := nb) (by rw [List.length_map]; exact HA.out.2.1.symm) (Nat.le_refl _)) (S.spans 1 rfl r4 (n := nb) (c := nb) (by rw [List.length_map]; exact HB.out.2.1.symm) (Nat.le_refl _)) nb (by rw [List.length_map]; exact HA.out.2.1) (by rw [List.length_map]; exact HB.out.2.1) HK.out.2.2.2.2 k HK.out.1 HK.out.2.2.1 (by decide))).mono ?_
    clear S
    rintro e w12 ⟨⟨_, rfl, g5, vs5, rfl, hg, hh, r5⟩, S, H⟩
    replace r3 := r3.hold H; replace r4 := r4.hold H
    clear H
    rw [show (List.zipWith (spA k) (qa.map (nearQ k)) (qb.map (nearQ k))).length = nb from by rw [List.length_zipWith, List.length_map, List.length_map, HA.out.2.1, HB.out.2.1, Nat.min_self]]
    replace S := S.adoptF HIN hg hh
    try simp only [List.cons_append, List.nil_append] at S
    clear HIN hg hh; go_wp2_with fail
    refine (S.call (vinner_any (HT.out.below S.below) (S.spans 0 rfl r3 (n := nb) (c := nb) (by rw [List.length_map]; exact HA.out.2.1.symm) (Nat.le_refl _)) (S.spans 1 rfl r4 (n := nb) (c := nb) (by rw [List.length_map]; exact HB.out.2.1.symm) (Nat.le_refl _)) nb (by rw [List.length_map]; exact HA.out.2.1) (by rw [List.length_map]; exact HB.out.2.1) (by have := HK.out; omega) k HK.out.1 HK.out.2.2.1 (by have := HK.out; omega))).mono ?_
    clear S
    rintro e w13 ⟨⟨_, rfl, b6, p6, l6, K6, m6, e6, b7, p7, l7, K7, m7, e7, rfl, h6, n6, d6, h7, n7, d7⟩, S, H⟩
    refine iv3 H r3 r4 r5 ?_; clear r3 r4 r5; intro r3 r4 r5
    clear H
    have H := S.hnew 29 [.bool b6, .slice p6 l6 K6, .int .i64 e6, .bool b7, .slice p7 l7 K7, .int .i64 e7]
    replace S := S.al 29 [.bool b6, .slice p6 l6 K6, .int .i64 e6, .bool b7, .slice p7 l7 K7, .int .i64 e7] (w13.heap.size)
    refine iv5 H r3 r4 r5 n6 n7 ?_; clear r3 r4 r5 n6 n7; intro r3 r4 r5 n6 n7
    clear H; go_wp2_with fail
    generalize (.tuple #[.agg #[.bool b6, .slice p6 l6 K6, .int .i64 e6, .bool b7, .slice p7 l7 K7, .int .i64 e7], .int .i64 0] : Value) = g1
    have HIN := S.ins
    refine (S.call (vadd_any (HA.out.1.to S.below) (HB.out.1.to S.below) nb HA.out.2.1 HB.out.2.1 HK.out.2.2.2.2 (k1 := 5) (k2 := 5) HA.out.2.2 HB.out.2.2 (by decide))).mono ?_
    clear S
    rintro e w14 ⟨⟨_, rfl, g8, vs8, rfl, hg, hh, r8⟩, S, H⟩
    refine iv5 H r3 r4 r5 n6 n7 ?_; clear r3 r4 r5 n6 n7; intro r3 r4 r5 n6 n7
    clear H
    rw [show (List.zipWith (· + ·) qa qb).length = nb from by rw [List.length_zipWith, HA.out.2.1, HB.out.2.1, Nat.min_self]]
    replace S := S.adoptF HIN hg hh
    try simp only [List.cons_append, List.nil_append] at S
    clear HIN hg hh; go_wp2_with fail
    refine (S.call (vdot_any (HA.out.1.to S.below) (HB.out.1.to S.below) nb HA.out.2.1 HB.out.2.1 (by have := HK.out; omega) (k1 := 5) (k2 := 5) HA.out.2.2 HB.out.2.2 (by have := HK.out; omega))).mono ?_
    clear S
    rintro e w15 ⟨⟨_, rfl, b9, p9, l9, K9, q9, j9, J9, rfl, h9, n9, d9⟩, S, H⟩
    refine iv6 H r3 r4 r5 n6 n7 r8 ?_; clear r3 r4 r5 n6 n7 r8; intro r3 r4 r5 n6 n7 r8
    clear H
    have H := S.hnew 34 [.bool b9, .slice p9 l9 K9, .slice q9 j9 J9]
    replace S := S.al 34 [.bool b9, .slice p9 l9 K9, .slice q9 j9 J9] (w15.heap.size)
    refine iv8 H r3 r4 r5 n6 n7 r8 n9 d9 ?_; clear r3 r4 r5 n6 n7 r8 n9 d9; intro r3 r4 r5 n6 n7 r8 n9 d9
    clear H; go_wp2_with fail
    generalize (.tuple #[.agg #[.bool b9, .slice p9 l9 K9, .slice q9 j9 J9], .int .i64 0] : Value) = g2
    refine (S.call (vholds_yes (k1 := 30) (k2 := 5) (S.spans 0 rfl r3 (n := nb) (c := nb) (by rw [List.length_map]; exact HA.out.2.1.symm) (Nat.le_refl _)) (HA.out.1.to S.below) nb (by rw [List.length_map]; exact HA.out.2.1) HA.out.2.1 HK.out.2.2.2.2 (by decide) (by decide) (by decide) HA.out.2.2 (near_holds HK.out.1))).mono ?_
    clear S
    rintro e w16 ⟨rfl, S, H⟩
    refine iv8 H r3 r4 r5 n6 n7 r8 n9 d9 ?_; clear r3 r4 r5 n6 n7 r8 n9 d9; intro r3 r4 r5 n6 n7 r8 n9 d9
    clear H; go_wp2_with fail
    refine (S.call (vholds_yes (k1 := 30) (k2 := 11) (S.spans 2 rfl r5 (n := nb) (c := nb) (by rw [List.length_zipWith, List.length_map, List.length_map, HA.out.2.1, HB.out.2.1, Nat.min_self]) (Nat.le_refl _)) (S.rats 4 rfl r8 (n := nb) (c := nb) (by rw [List.length_zipWith, HA.out.2.1, HB.out.2.1, Nat.min_self]) (Nat.le_refl _)) nb (by rw [List.length_zipWith, List.length_map, List.length_map, HA.out.2.1, HB.out.2.1, Nat.min_self]) (by rw [List.length_zipWith, HA.out.2.1, HB.out.2.1, Nat.min_self]) HK.out.2.2.2.2 (by decide) (by decide) (by decide) (rb_zip HA.out.2.2 HB.out.2.2) (plus_holds HK.out.1))).mono ?_
    clear S
    rintro e w17 ⟨rfl, S, H⟩
    refine iv8 H r3 r4 r5 n6 n7 r8 n9 d9 ?_; clear r3 r4 r5 n6 n7 r8 n9 d9; intro r3 r4 r5 n6 n7 r8 n9 d9
    clear H; clear r5 r8; obtain ⟨c3_0, c3_1, c3_2, c3_3, c3_4, c3_5⟩ := S.c6 3 rfl; obtain ⟨c5_0, c5_1, c5_2⟩ := S.c3 5 rfl
    have hbd : RB (dotL qa qb) 67 := (rb_dot HA.out.2.1 HB.out.2.1 HA.out.2.2 HB.out.2.2).mono (by have := HK.out; omega)
    have hin := inner_holds (qs := qa) (rs := qb) HK.out.1 (HA.out.2.1.trans HB.out.2.1.symm)
    go_wp2_with fail
    refine (S.call (shasr_yes (L := 1240) (H := 339) (k1 := 50) (k2 := 67) (IsSp.mono ⟨b6, p6, l6, K6, m6, e6, b7, p7, l7, K7, m7, e7, rfl, h6, n6, d6, h7, n7, d7⟩ (by decide) (by have := HK.out; omega)) ⟨b9, p9, l9, K9, q9, j9, J9, rfl, h9, n9, d9⟩ (by decide) (by decide) hbd (by decide) hin.1 hin.2)).mono ?_
    clear S
    rintro e w18 ⟨rfl, S, H⟩
    refine iv6 H r3 r4 n6 n7 n9 d9 ?_; clear r3 r4 n6 n7 n9 d9; intro r3 r4 n6 n7 n9 d9
    clear H; clear c3_0 c3_1 c3_2 c3_3 c3_4 c3_5 c5_0 c5_1 c5_2 hbd hin; clear n6 n7 n9 d9; clear h6 d6 h7 d7 h9; go_wp2_with fail
    refine (S.call (vnorm_any (S.spans 0 rfl r3 (n := nb) (c := nb) (by rw [List.length_map]; exact HA.out.2.1.symm) (Nat.le_refl _)) nb (by rw [List.length_map]; exact HA.out.2.1) HK.out.2.2.2.2 (by decide))).mono ?_
    clear S
    rintro e w19 ⟨⟨_, rfl, b10, p10, l10, K10, m10, e10, rfl, h10, n10, d10⟩, S, H⟩
    replace r3 := r3.hold H; replace r4 := r4.hold H
    clear H
    have H := S.hnew 27 [.bool b10, .slice p10 l10 K10, .int .i64 e10]
    replace S := S.al 27 [.bool b10, .slice p10 l10 K10, .int .i64 e10] (w19.heap.size)
    refine iv3 H r3 r4 n10 ?_; clear r3 r4 n10; intro r3 r4 n10
    clear H; go_wp2_with fail
    generalize w19.heap.size = bkn at S ⊢
    replace S := S.sub (L := [(g3, 29, vs3), (g4, 29, vs4), (bkn, 27, [.bool b10, .slice p10 l10 K10, .int .i64 e10])]) (.cons_cons _ (.cons_cons _ (.cons _ (.cons _ (.cons _ (.cons _ (.cons_cons _ .slnil)))))))
    go_loopw [152] (fun si wr => ∃ i : Nat, i ≤ nb ∧ si = .int .i64 i ∧ SL wr 620 163 vs3 (qa.map (nearQ k)) ∧ SL wr 620 163 vs4 (qb.map (nearQ k)) ∧ IsNat wr (.slice p10 l10 K10) m10.natAbs ∧ St w wr [(g3, 29, vs3), (g4, 29, vs4), (bkn, 27, [.bool b10, .slice p10 l10 K10, .int .i64 e10])]) (fun si _ => nb - (intOf si).toNat)
    case atStart => exact ⟨0, by omega, rfl, r3, r4, n10, S⟩
    case round =>
      clear S r3 r4 n10
      obtain ⟨i, hi, rfl, r3, r4, n10, S⟩ := hrel
      by_cases hlt : i < nb
      · obtain ⟨g2, off, x, v0, v1, v2, rfl, hg2, hqa, a0, a1, a2, b11, p11, l11, K11, q11, j11, J11, rfl, rfl, rfl, h11, n11, d11⟩ := HA.out.1.get hlt
        replace a0 := (S.below.cell (p := ⟨g2, off + i * 3, none⟩) hg2).trans a0
        replace a1 := (S.below.cell (p := ⟨g2, off + i * 3 + 1, none⟩) hg2).trans a1
        replace a2 := (S.below.cell (p := ⟨g2, off + i * 3 + 2, none⟩) hg2).trans a2
        replace n11 := n11.below S.below (Nat.le_refl _); replace d11 := d11.below S.below (Nat.le_refl _)
        have hki : (i : Int) < ((nb : Nat) : Int) := by omega
        have hq0 : ∃ q0, qb[0]? = some q0 := ⟨qb[0]'(by have := HB.out.2.1; omega), List.getElem?_eq_getElem _⟩
        obtain ⟨q0, hq0⟩ := hq0
        have HQ := Lib.hid (And.intro hlt (And.intro hqa hq0))
        clear hlt hi hqa hg2 hq0
        have H := S.hnew 34 [.bool b11, .slice p11 l11 K11, .slice q11 j11 J11]
        replace S := S.al 34 [.bool b11, .slice p11 l11 K11, .slice q11 j11 J11] (wr.heap.size)
        refine iv5 H r3 r4 n10 n11 d11 ?_; clear r3 r4 n10 n11 d11; intro r3 r4 n10 n11 d11
        clear H
        obtain ⟨c, hc⟩ : ∃ c, cmpR (normS (qa.map (nearQ k))) x.abs = c := ⟨_, rfl⟩
        have hc0 : ¬ c < 0 := by rw [← hc]; exact cmpR_ge0 (norm_holds HK.out.1 HQ.out.2.1)
        have HRX := Lib.hid (And.intro (rb_max (HA.out.2.2 x (List.mem_of_getElem? HQ.out.2.1)) (by decide)) (rb_absL (HA.out.2.2 x (List.mem_of_getElem? HQ.out.2.1))))
        obtain ⟨c2_0, c2_1, c2_2⟩ := S.c3 2 rfl; obtain ⟨c3_0, c3_1, c3_2⟩ := S.c3 3 rfl
        go_upto_region 22 with fail
        clear c2_0 c2_1 c2_2 c3_0 c3_1 c3_2
        replace r3 := r3.hold (Hold.drew _); replace r4 := r4.hold (Hold.drew _); replace n10 := n10.hold (Hold.drew _); replace n11 := n11.hold (Hold.drew _); replace d11 := d11.hold (Hold.drew _)
        replace S := S.drew
        clear a0 a1 a2
        refine wp_region_held_drew (S := fun W => W.cell? ⟨bkn, 0, none⟩ = some (.bool b10) ∧ W.cell? ⟨bkn, 1, none⟩ = some (.slice p10 l10 K10) ∧ W.cell? ⟨bkn, 2, none⟩ = some (.int .i64 e10) ∧ W.cell? ⟨wr.heap.size, 0, none⟩ = some (.bool b11) ∧ W.cell? ⟨wr.heap.size, 1, none⟩ = some (.slice p11 l11 K11) ∧ W.cell? ⟨wr.heap.size, 2, none⟩ = some (.slice q11 j11 J11)) (by kernel_rfl) (con3 (S.c3 2 rfl) (S.c3 3 rfl)) (fun hS => ?_)
        refine tk 0 hS ?_
        refine tk 1 hS ?_
        refine rd 2 fun KK hKK => ?_
        go_simp
        refine (S.call (rabs_any ⟨b11, p11, l11, K11, q11, j11, J11, rfl, h11, n11, d11⟩ HRX.out.1)).mono ?_; clear S; rintro e w21 ⟨⟨_, rfl, b12, p12, l12, K12, q12, j12, J12, rfl, h12, n12, d12⟩, S, H⟩; refine iv5 H r3 r4 n10 n11 d11 ?_; clear r3 r4 n10 n11 d11; intro r3 r4 n10 n11 d11; clear H
        go_wp2_with fail
        refine ho hKK (con3 (S.c3 2 rfl) (S.c3 3 rfl)) fun hS => ?_
        clear hKK KK
        refine rd 3 fun KK hKK => ?_
        go_simp
        refine (S.call (dcmp_any (k1 := 25) (k2 := 5) ⟨b10, p10, l10, K10, m10, e10, rfl, h10, n10, d10⟩ ⟨b12, p12, l12, K12, q12, j12, J12, rfl, h12, n12, d12⟩ (by decide) (by decide) HRX.out.2 (by decide) c hc)).mono ?_; clear S; rintro e w22 ⟨rfl, S, H⟩; refine iv7 H r3 r4 n10 n11 d11 n12 d12 ?_; clear r3 r4 n10 n11 d11 n12 d12; intro r3 r4 n10 n11 d11 n12 d12; clear H
        go_wp2_with fail
        refine ho hKK (con3 (S.c3 2 rfl) (S.c3 3 rfl)) fun hS => ?_
        clear hKK KK
        refine tk 4 hS ?_
        refine tk 5 hS ?_
        refine tk 6 hS ?_
        refine rd 7 fun KK hKK => ?_
        go_simp
        refine ho hKK (con3 (S.c3 2 rfl) (S.c3 3 rfl)) fun hS => ?_
        clear hKK KK
        refine rd 8 fun KK hKK => ?_
        go_simp
        refine ho hKK (con3 (S.c3 2 rfl) (S.c3 3 rfl)) fun hS => ?_
        clear hKK KK
        refine wpAnyH_done (by kernel_rfl) ?_ _
        clear n11 d11 n12 d12; clear h11 h12
        obtain ⟨_, _, _, _, _, _, k0, k1, k2, k3, k4, k5, b13, p13, l13, K13, m13, e13, b14, p14, l14, K14, m14, e14, hv, h13, n13, d13, h14, n14, d14⟩ := r4.get (j := 0) (q := nearQ k q0) (by rw [List.getElem?_map, HQ.out.2.2]; rfl)
        simp only [Value.agg.injEq, Array.mk.injEq, List.cons.injEq, and_true] at hv
        obtain ⟨rfl, rfl, rfl, rfl, rfl, rfl⟩ := hv
        have a0 := S.c 1 _ rfl k0; have a1 := S.c 1 _ rfl k1; have a2 := S.c 1 _ rfl k2; have a3 := S.c 1 _ rfl k3; have a4 := S.c 1 _ rfl k4; have a5 := S.c 1 _ rfl k5
        clear k0 k1 k2 k3 k4 k5
        simp only [Nat.zero_mul, Nat.zero_add] at a0 a1 a2 a3 a4 a5
        have hn0 : (0 : Int) < ((nb : Nat) : Int) := by omega
        go_wp2_with fail
        have HIN := S.ins
        refine (S.call (vtimes_any (y := nearQ k q0) (HT.out.below S.below) (S.spans 0 rfl r3 (n := nb) (c := nb) (by rw [List.length_map]; exact HA.out.2.1.symm) (Nat.le_refl _)) ⟨b13, p13, l13, K13, m13, e13, b14, p14, l14, K14, m14, e14, rfl, h13, n13, d13, h14, n14, d14⟩ nb (by rw [List.length_map]; exact HA.out.2.1) HK.out.2.2.2.2 k HK.out.1 HK.out.2.2.1 (by decide))).mono ?_
        clear S
        rintro e w23 ⟨⟨_, rfl, g15, vs15, rfl, hg, hh, r15⟩, S, H⟩
        refine iv3 H r3 r4 n10 ?_; clear r3 r4 n10; intro r3 r4 n10
        clear H; obtain ⟨c2_0, c2_1, c2_2⟩ := S.c3 2 rfl; obtain ⟨c3_0, c3_1, c3_2⟩ := S.c3 3 rfl
        rw [List.length_map, List.length_map, HA.out.2.1]
        clear a0 a1 a2 a3 a4 a5 HIN hg hh r15 h13 n13 d13 h14 n14 d14; go_wp2_with fail
        replace S := S.take 3 rfl
        go_roundw
        case rel => exact ⟨i + 1, HQ.out.1, by go_num, r3, r4, n10, S⟩
        case measure => have := HQ.out.1; simp [intOf]; omega
      · have hki : ¬ (i : Int) < ((nb : Nat) : Int) := by omega
        clear hlt hi; go_wp2_with fail
        exact bodyPost_ret (v := .bool true) (by simp [results, Tryz.f7, go_sem]) rfl (⟨rfl, S.below⟩)
end Go.Proofs.YtcfgefbkeeedgaaGreatDoor
