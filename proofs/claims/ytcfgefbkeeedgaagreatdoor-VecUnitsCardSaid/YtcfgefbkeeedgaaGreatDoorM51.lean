/-
  What the statement stands on.
-/
import Derived.Test.YtcfgefbkeeedgaaGreatDoorM30
import Derived.Test.YtcfgefbkeeedgaaGreatDoorM32
import Derived.Test.YtcfgefbkeeedgaaGreatDoorM38
namespace Go.Proofs.YtcfgefbkeeedgaaGreatDoor
open Go.RowKit
def allU (qs : List Rat) (n k : Nat) : List Rat := qs.take k ++ List.replicate (n - k) 0
theorem allU_len {qs : List Rat} {n k : Nat} (h : qs.length = n) (hk : k ≤ n) : (allU qs n k).length = n := by simp [allU, h]; omega
theorem allU_get {qs : List Rat} {n k j : Nat} (h : qs.length = n) (hk : k ≤ n) : (allU qs n k)[j]? = if j < k then qs[j]? else if j < n then some 0 else none := by
  unfold allU
  by_cases hj : j < k
  · rw [if_pos hj, List.getElem?_append_left (by rw [List.length_take]; omega), List.getElem?_take, if_pos hj]
  · rw [if_neg hj, List.getElem?_append_right (by rw [List.length_take]; omega), List.length_take, Nat.min_eq_left (by omega), List.getElem?_replicate]
    by_cases hn : j < n
    · rw [if_pos hn, if_pos (by omega)]
    · rw [if_neg hn, if_neg (by omega)]
theorem unit_get (n j : Nat) (z : Int) : (unitL n z)[j]? = if j < n then some (if (j : Int) = z then 1 else 0) else none := by
  unfold unitL
  by_cases hj : j < n
  · rw [if_pos hj, List.getElem?_map, List.getElem?_range hj]; rfl
  · rw [if_neg hj, List.getElem?_eq_none (by simp; omega)]
theorem allU_next {qs : List Rat} {n k : Nat} {x : Rat} (h : qs.length = n) (hk : k < n) (hx : qs[k]? = some x) : List.zipWith (· + ·) (allU qs n k) ((unitL n (k : Int)).map (· * x)) = allU qs n (k + 1) := by
  apply List.ext_getElem?
  intro j
  rw [List.getElem?_zipWith, List.getElem?_map, unit_get, allU_get h (by omega), allU_get h (by omega)]
  by_cases hjn : j < n
  · have hq : qs[j]? = some (qs[j]'(by omega)) := List.getElem?_eq_getElem _
    by_cases hjk : j < k
    · have e : ¬ (j : Int) = (k : Int) := by omega
      simp only [hjk, hjn, e, if_true, if_false, Option.map_some, Rat.zero_mul, hq, show j < k + 1 by omega, Rat.add_zero]
    · by_cases e : j = k
      · subst e
        simp [hjn, hx, Rat.one_mul, Rat.zero_add]
      · have e' : ¬ (j : Int) = (k : Int) := by omega
        simp [hjk, hjn, e', show ¬ j < k + 1 by omega, Rat.zero_mul, Rat.add_zero]
  · simp [hjn, show ¬ j < k by omega, show ¬ j < k + 1 by omega]
theorem allU_zero (qs : List Rat) (n : Nat) : allU qs n 0 = List.replicate n 0 := by simp [allU]
theorem allU_all {qs : List Rat} {n : Nat} (h : qs.length = n) : allU qs n n = qs := by simp [allU, ← h]
theorem allU_rb {qs : List Rat} {n k a : Nat} (hq : ∀ q, q ∈ qs → RB q a) (ha : 1 ≤ a) : ∀ q, q ∈ allU qs n k → RB q a := fun q h => by
  rcases List.mem_append.1 h with h | h
  · exact hq q (List.mem_of_mem_take h)
  · rw [(List.mem_replicate.1 h).2]; exact rb_zero.mono ha
theorem unit_rb (n : Nat) (z : Int) : ∀ q, q ∈ unitL n z → RB q 1 := fun q h => by
  obtain ⟨i, _, rfl⟩ := List.mem_map.1 h
  by_cases e : (i : Int) = z
  · rw [if_pos e]; exact rb_one (by decide +kernel) (by decide +kernel)
  · rw [if_neg e]; exact rb_zero
theorem dot_zero : ∀ (qs : List Rat) (n : Nat), dotL qs (List.replicate n 0) = 0
  | [], _ => by cases ‹Nat› <;> rfl
  | q :: qs, 0 => rfl
  | q :: qs, n + 1 => by rw [List.replicate_succ, dot_cons, dot_zero qs n]; grind
theorem dot_set : ∀ (qs : List Rat) (n k : Nat) (x : Rat), qs.length = n → qs[k]? = some x → dotL qs ((List.replicate n 0).set k 1) = x
  | [], _, _, _, _, h => by simp at h
  | q :: qs, n, 0, x, hl, h => by
    obtain ⟨m, rfl⟩ : ∃ m, n = m + 1 := ⟨qs.length, by simpa using hl.symm⟩
    simp at h
    subst h
    rw [List.replicate_succ, List.set_cons_zero, dot_cons, dot_zero]; grind
  | q :: qs, n, k + 1, x, hl, h => by
    obtain ⟨m, rfl⟩ : ∃ m, n = m + 1 := ⟨qs.length, by simpa using hl.symm⟩
    rw [List.replicate_succ, List.set_cons_succ, dot_cons, dot_set qs m k x (by simpa using hl) (by simpa using h)]; grind
theorem dot_unit {qs : List Rat} {n k : Nat} {x : Rat} (hl : qs.length = n) (h : qs[k]? = some x) : dotL qs (unitL n (k : Int)) = x := by
  have hk : k < n := by rw [← hl]; exact (List.getElem?_eq_some_iff.1 h).1
  rw [unitL_at hk]
  exact dot_set qs n k x hl h
set_option maxRecDepth 100000 in
set_option maxHeartbeats 16000000 in
theorem vecUnits_any (va : Value) (xsa : List RawQ) (w : World) (hT : Tab w) (hRa : Raws w va xsa) :
    Calls Tryz.prog 9 #[va] w fun e w' => e = .returned (.bool true) ∧ Below w.heap.size w w' := by
  have HT := Lib.hid hT
  obtain ⟨pa, ca, rfl⟩ := hRa.form
  obtain ⟨na, hna⟩ : ∃ n, xsa.length = n := ⟨_, rfl⟩
  rw [hna] at hRa
  have HRa := Lib.hid (And.intro hRa hna)
  rw [hna]
  clear hT hRa hna
  have S := St.start w
  go_enter Tryz.func9, Tryz.ntmps9
  go_wp2_with fail
  refine (S.call (points_any _ (HT.out.below S.below))).mono ?_
  clear S
  rintro e w1 ⟨rfl, S, H⟩
  clear H
  have H := S.hnew 55 [.slice pa na ca]
  replace S := S.al 55 [.slice pa na ca] (w1.heap.size)
  clear H; go_wp2_with fail
  refine (S.call (vfit_any _ 1 (.slice pa na ca) xsa [] _ (rawll1 S 0 rfl (HRa.out.1.to S.below)) rfl (by decide))).mono ?_
  clear S
  rintro e w2 ⟨⟨ok, rfl, hok⟩, S, H⟩
  clear H
  cases ok with
  | false =>
    go_wp2_with fail
    exact bodyPost_ret (v := .bool true) (by simp [results, Tryz.f9, go_sem]) rfl (⟨rfl, S.below⟩)
  | true =>
    have hfa := hok.out rfl 0 _ _ rfl
    rw [HRa.out.2] at hfa
    obtain ⟨qa, ra, la, ba, _⟩ := hfa.list HRa.out.1
    have HA := Lib.hid (And.intro ra (And.intro la (And.intro ba hfa.2.1)))
    have hn16 : ((na : Nat) : Int) ≤ 16 := by have := hfa.2.1; omega
    clear hok hfa ra la ba
    replace S := S.take 0 (L := []) rfl
    go_wp2_with fail
    have HIN := S.ins
    refine (S.call (vzero_any na HA.out.2.2.2 _)).mono ?_
    clear S
    rintro e w10 ⟨⟨_, rfl, g3, vs3, rfl, hg, hh, r3⟩, S, H⟩
    clear H
    rw [List.length_replicate]
    have hr0 : RL w10 vs3 (allU qa na 0) := by rw [allU_zero]; exact r3
    clear r3
    replace S := S.adoptF HIN hg hh
    try simp only [List.cons_append, List.nil_append] at S
    clear HIN hg hh; go_wp2_with fail
    go_loopw [3, 25] (fun sa si wr => ∃ (k g : Nat) (vs : List Value), k ≤ na ∧ si = .int .i64 k ∧ sa = .slice (some ⟨g, 0, none⟩) na na ∧ RL wr vs (allU qa na k) ∧ St w wr [(g, 34, vs)]) (fun _ si _ => na - (intOf si).toNat)
    case atStart => exact ⟨0, _, _, by omega, rfl, rfl, hr0, S⟩
    case round =>
      clear S hr0
      obtain ⟨k, g, vs, hk, rfl, rfl, hr, S⟩ := hrel
      by_cases hlt : k < na
      · obtain ⟨g2, off, x, v0, v1, v2, rfl, hg2, hqa, a0, a1, a2, b1, p1, l1, K1, q1, j1, J1, rfl, rfl, rfl, h1, n1, d1⟩ := HA.out.1.get hlt
        replace a0 := (S.below.cell (p := ⟨g2, off + k * 3, none⟩) hg2).trans a0
        replace a1 := (S.below.cell (p := ⟨g2, off + k * 3 + 1, none⟩) hg2).trans a1
        replace a2 := (S.below.cell (p := ⟨g2, off + k * 3 + 2, none⟩) hg2).trans a2
        replace n1 := n1.below S.below (Nat.le_refl _); replace d1 := d1.below S.below (Nat.le_refl _)
        have hki : (k : Int) < ((na : Nat) : Int) := by omega
        have hk16 : (k : Int) ≤ 16 := by omega
        have HQ := Lib.hid (And.intro hlt hqa)
        clear hlt hk hqa hg2
        go_upto_region 9 with fail
        clear a0 a1 a2
        have H := S.hnew 34 [.bool b1, .slice p1 l1 K1, .slice q1 j1 J1]
        replace S := S.al 34 [.bool b1, .slice p1 l1 K1, .slice q1 j1 J1] (wr.heap.size)
        refine iv3 H n1 d1 hr ?_; clear n1 d1 hr; intro n1 d1 hr
        clear H; go_wp2_with fail
        have HIN := S.ins
        refine (S.call (vunit_any na HA.out.2.2.2 (k : Int) _)).mono ?_
        clear S
        rintro e w21 ⟨⟨_, rfl, g4, vs4, rfl, hg, hh, r4⟩, S, H⟩
        refine iv3 H n1 d1 hr ?_; clear n1 d1 hr; intro n1 d1 hr
        clear H
        rw [unitL_len]
        replace S := S.adoptF HIN hg hh
        try simp only [List.cons_append, List.nil_append] at S
        clear HIN hg hh; go_wp2_with fail
        refine (S.call (vdot_any (HA.out.1.to S.below) (S.rats 2 rfl r4 (n := na) (c := na) (unitL_len ..).symm (Nat.le_refl _)) na HA.out.2.1 (unitL_len ..) (by have := HA.out.2.2.2; omega) (k1 := 5) (k2 := 1) HA.out.2.2.1 (unit_rb _ _) (by have := HA.out.2.2.2; omega))).mono ?_
        clear S
        rintro e w22 ⟨⟨_, rfl, b5, p5, l5, K5, q5, j5, J5, rfl, h5, n5, d5⟩, S, H⟩
        refine iv4 H n1 d1 hr r4 ?_; clear n1 d1 hr r4; intro n1 d1 hr r4
        clear H
        have H := S.hnew 34 [.bool b5, .slice p5 l5 K5, .slice q5 j5 J5]
        replace S := S.al 34 [.bool b5, .slice p5 l5 K5, .slice q5 j5 J5] (w22.heap.size)
        refine iv6 H n1 d1 hr r4 n5 d5 ?_; clear n1 d1 hr r4 n5 d5; intro n1 d1 hr r4 n5 d5
        clear H
        rw [dot_unit HA.out.2.1 HQ.out.2] at h5 n5 d5
        obtain ⟨c1_0, c1_1, c1_2⟩ := S.c3 1 rfl; obtain ⟨c3_0, c3_1, c3_2⟩ := S.c3 3 rfl; go_wp2_with fail
        generalize (.tuple #[.agg #[.bool b5, .slice p5 l5 K5, .slice q5 j5 J5], .int .i64 0] : Value) = g1
        refine (S.call (rcompare_any ⟨b1, p1, l1, K1, q1, j1, J1, rfl, h1, n1, d1⟩ ⟨b5, p5, l5, K5, q5, j5, J5, rfl, h5, n5, d5⟩ (HA.out.2.2.1 x (List.mem_of_getElem? HQ.out.2)) (HA.out.2.2.1 x (List.mem_of_getElem? HQ.out.2)) (by decide) 0 (cmpR_eq _))).mono ?_
        clear S
        rintro e w23 ⟨rfl, S, H⟩
        refine iv6 H n1 d1 hr r4 n5 d5 ?_; clear n1 d1 hr r4 n5 d5; intro n1 d1 hr r4 n5 d5
        clear H; clear c1_0 c1_1 c1_2 c3_0 c3_1 c3_2; clear n5 d5; clear h5; obtain ⟨c1_0, c1_1, c1_2⟩ := S.c3 1 rfl; go_wp2_with fail
        have HIN := S.ins
        refine (S.call (vscale_any (S.rats 2 rfl r4 (n := na) (c := na) (unitL_len ..).symm (Nat.le_refl _)) ⟨b1, p1, l1, K1, q1, j1, J1, rfl, h1, n1, d1⟩ na (unitL_len ..) (by have := HA.out.2.2.2; omega) (k1 := 1) (k2 := 5) (unit_rb _ _) (HA.out.2.2.1 x (List.mem_of_getElem? HQ.out.2)) (by decide))).mono ?_
        clear S
        rintro e w24 ⟨⟨_, rfl, g6, vs6, rfl, hg, hh, r6⟩, S, H⟩
        refine iv4 H n1 d1 hr r4 ?_; clear n1 d1 hr r4; intro n1 d1 hr r4
        clear H; clear c1_0 c1_1 c1_2
        rw [show ((unitL na (k : Int)).map (· * x)).length = na from by rw [List.length_map, unitL_len]]
        replace S := S.adoptF HIN hg hh
        try simp only [List.cons_append, List.nil_append] at S
        clear HIN hg hh; clear n1 d1 r4; clear h1; go_wp2_with fail
        have HIN := S.ins
        refine (S.call (vadd_any (S.rats 0 rfl hr (n := na) (c := na) (allU_len HA.out.2.1 (Nat.le_of_lt HQ.out.1)).symm (Nat.le_refl _)) (S.rats 4 rfl r6 (n := na) (c := na) (by rw [List.length_map, unitL_len]) (Nat.le_refl _)) na (allU_len HA.out.2.1 (Nat.le_of_lt HQ.out.1)) (by rw [List.length_map, unitL_len]) (by have := HA.out.2.2.2; omega) (k1 := 5) (k2 := 6) (allU_rb HA.out.2.2.1 (by decide)) (rb_scale (unit_rb _ _) (HA.out.2.2.1 x (List.mem_of_getElem? HQ.out.2))) (by decide))).mono ?_
        clear S
        rintro e w25 ⟨⟨_, rfl, g7, vs7, rfl, hg, hh, r7⟩, S, H⟩
        replace hr := hr.hold H; replace r6 := r6.hold H
        clear H
        rw [allU_next HA.out.2.1 HQ.out.1 HQ.out.2, allU_len HA.out.2.1 HQ.out.1]
        rw [allU_next HA.out.2.1 HQ.out.1 HQ.out.2] at r7
        replace S := S.adoptF HIN hg hh
        try simp only [List.cons_append, List.nil_append] at S
        clear HIN hg hh; clear r6 hr; go_wp2_with fail
        replace S := S.sub (.cons _ (.cons _ (.cons _ (.cons _ (.cons _ (.cons_cons _ .slnil))))))
        go_roundw
        case rel => exact ⟨k + 1, g7, vs7, HQ.out.1, by go_num, rfl, r7, S⟩
        case measure => have := HQ.out.1; simp [intOf]; omega
      · have hki : ¬ (k : Int) < ((na : Nat) : Int) := by omega
        have hkn : k = na := by omega
        subst hkn
        rw [allU_all HA.out.2.1] at hr
        clear hlt hk; go_wp2_with fail
        refine (S.call (vsame_any (S.rats 0 rfl hr (n := k) (c := k) HA.out.2.1.symm (Nat.le_refl _)) (HA.out.1.to S.below) k HA.out.2.1 HA.out.2.1 (by have := HA.out.2.2.2; omega) (rb_m HA.out.2.2.1 (by decide)) (r := true) (decide_eq_true rfl))).mono ?_
        clear S
        rintro e w61 ⟨rfl, S, H⟩
        replace hr := hr.hold H; clear H; go_wp2_with fail
        exact bodyPost_ret (v := .bool true) (by simp [results, Tryz.f9, go_sem]) rfl (⟨rfl, S.below⟩)
end Go.Proofs.YtcfgefbkeeedgaaGreatDoor
