/-
  What the statement stands on.
-/
import Derived.Test.YtcfgefbkeeedgaaGreatM21
import Derived.Laws.OwnMore
namespace Go.Proofs.YtcfgefbkeeedgaaGreat
open Go.RowKit
theorem lists_arr {w : World} {base n : Nat} {v : Value} {cs : List Value} (h : w.ownsRow base 22 1 v n cs) : ∃ p c, v = .slice p n c ∧ (p = none → c = 0 ∧ n = 0) ∧ n ≤ c ∧ ∀ g off sp, p = some ⟨g, off, sp⟩ → sp = none ∧ ArrAt w g off cs ∧ g < w.heap.size := by
  rcases h.2 with ⟨h1, h2⟩ | ⟨g, cap, cur, h1, h2, h3, h4, h5, h6, h7⟩
  · subst h1 h2
    exact ⟨none, 0, rfl, fun _ => ⟨rfl, rfl⟩, Nat.le_refl _, fun g off sp e => (by cases e)⟩
  · subst h1
    refine ⟨_, cap, rfl, fun e => (by cases e), h4, fun g' off sp e => ?_⟩
    cases e
    refine ⟨rfl, fun j u hj => ?_, lt_of_heap h3⟩
    have hc := h.cells (g := g) rfl
    have e : ∀ k, (⟨g, 0, none⟩ : Addr).add k = ⟨g, 0 + k, none⟩ := fun k => by unfold Addr.add; split <;> simp_all
    have c0 := hc _ _ hj
    rw [e] at c0
    exact c0
theorem list_of {α : Type} {P : Nat → α → Prop} : ∀ n, (∀ j, j < n → ∃ r, P j r) → ∃ A : List α, A.length = n ∧ ∀ j r, A[j]? = some r → P j r
  | 0, _ => ⟨[], rfl, fun j r h => by simp at h⟩
  | n + 1, h => by
    obtain ⟨A, hl, hA⟩ := list_of n fun j hj => h j (by omega)
    obtain ⟨r, hr⟩ := h n (by omega)
    refine ⟨A ++ [r], by simp [hl], fun j x hx => ?_⟩
    by_cases hj : j < n
    · rw [List.getElem?_append_left (by omega)] at hx
      exact hA j x hx
    · rw [List.getElem?_append_right (by omega)] at hx
      have e : j - A.length = 0 := by
        have := (List.getElem?_eq_some_iff.1 hx).1
        simp at this
        omega
      rw [e] at hx
      have e2 : j = n := by omega
      subst e2
      simp at hx
      exact hx ▸ hr
theorem St.callB {w W : World} {L} {P : Program} {f : FuncId} {args : Array Value} {R : Ending → World → Prop} (S : St w W L) (hc : Calls P f args W fun e w' => R e w' ∧ Below W.heap.size W w') :
    Calls P f args W fun e w' => R e w' ∧ St w w' L ∧ Below W.heap.size W w' := hc.mono fun _ _ h => ⟨h.1, S.to h.2, h.2⟩
theorem rb_abs3 {x : Rat} {k : Nat} (h : RB x k) : RB x.abs k := by
  rcases Rat.le_total (a := 0) (b := x) with h0 | h0
  · rw [Rat.abs_of_nonneg h0]; exact h
  · rw [Rat.abs_of_nonpos h0]; exact rb_neg h
theorem rb_one1 : RB 1 1 := ⟨by show Int.natAbs 1 < _; rw [NB_one]; decide, by show 1 < NB 1; rw [NB_one]; decide⟩
theorem rb_zipadd {xs ys : List Rat} {a b : Nat} (hx : ∀ q, q ∈ xs → RB q a) (hy : ∀ q, q ∈ ys → RB q b) : ∀ q, q ∈ List.zipWith (· + ·) xs ys → RB q (a + b + 1) := fun q hq => by
  obtain ⟨j, hj⟩ := List.getElem?_of_mem hq
  rw [List.getElem?_zipWith] at hj
  split at hj
  · rename_i x y h1 h2
    cases hj
    exact rb_add (hx _ (List.mem_of_getElem? h1)) (hy _ (List.mem_of_getElem? h2))
  · cases hj
theorem rb_mapmul {xs : List Rat} {y : Rat} {a b : Nat} (hx : ∀ q, q ∈ xs → RB q a) (hy : RB y b) : ∀ q, q ∈ xs.map (· * y) → RB q (a + b) := fun q hq => by
  obtain ⟨x, h, rfl⟩ := List.mem_map.1 hq
  exact rb_mul (hx x h) hy
set_option maxRecDepth 100000 in
set_option maxHeartbeats 8000000 in
theorem point_any {vc vg vb : Value} {cs bs : List Rat} {A : List (List Rat)} {w : World} (hc : Rats w vc cs) (hA : Tabs2 w vg A) (hb : Rats w vb bs) (n m : Nat) (hcl : cs.length = n) (hAl : A.length = m) (hbl : bs.length = m) (hm4 : m ≤ 4) (hn4 : n ≤ 4)
    (hr : ∀ r, r ∈ A → r.length = n) (q1 : ∀ q, q ∈ cs → RB q 3) (q2 : ∀ r, r ∈ A → ∀ q, q ∈ r → RB q 3) (q3 : ∀ q, q ∈ bs → RB q 3) :
    Calls Tryz.prog 8 #[.agg #[vc, vg], vb] w fun e w' => (∃ p l c r, e = .returned (.tuple #[.slice p l c, .int .i64 r]) ∧ Hid (r ≠ 0 → l = 0) ∧ Hid (r = 0 → l = n ∧ ∃ qs, qs.length = n ∧ (∀ q, q ∈ qs → RB q 31) ∧ Rats w' (.slice p l c) qs)) ∧ Below w.heap.size w w' := by
  obtain ⟨pc, cc, rfl⟩ := hc.form
  obtain ⟨pg, cg, rfl⟩ := hA.form
  obtain ⟨pb, cb, rfl⟩ := hb.form
  rw [hcl] at hc ⊢
  rw [hAl] at hA ⊢
  rw [hbl] at hb ⊢
  have HI := Lib.hid (And.intro hc (And.intro hA (And.intro hb (And.intro hcl (And.intro hAl (And.intro hbl (And.intro hm4 (And.intro hn4 (And.intro hr (And.intro q1 (And.intro q2 q3)))))))))))
  have hm9 : ((m : Nat) : Int) ≤ 4 := by omega
  clear hc hA hb hcl hAl hbl hm4 hn4 hr q1 q2 q3
  have S := (St.start w).alloc 25 [.slice pc n cc, .slice pg m cg] (w.heap.size)
  try simp only [List.nil_append] at S
  have c0_0 := S.c 0 0 rfl rfl; have c0_1 := S.c 0 1 rfl rfl
  go_enter Tryz.func8, Tryz.ntmps8
  clear c0_0 c0_1
  go_upto_region 1 with fail
  have c0_0 := S.c 0 0 rfl rfl; have c0_1 := S.c 0 1 rfl rfl; go_wp2_with fail; clear c0_0 c0_1
  go_loopw [23] (fun si wr => ∃ k : Nat, k ≤ m ∧ si = .int .i64 k ∧ St w wr [(w.heap.size, 25, [.slice pc n cc, .slice pg m cg])]) (fun si _ => m - (intOf si).toNat)
  case atStart => exact ⟨0, by omega, rfl, S⟩
  case round =>
    clear S
    obtain ⟨k, hk, rfl, S⟩ := hrel
    by_cases hlt : k < m
    · obtain ⟨g, off, q, v0, v1, v2, rfl, hg, hq, a0, a1, a2, b, p1, l1, K1, p2, l2, K2, rfl, rfl, rfl, hs, n1, n2⟩ := HI.out.2.2.1.get hlt
      replace a0 := (S.below.cell (p := ⟨g, off + k * 3, none⟩) hg).trans a0
      replace a1 := (S.below.cell (p := ⟨g, off + k * 3 + 1, none⟩) hg).trans a1
      replace a2 := (S.below.cell (p := ⟨g, off + k * 3 + 2, none⟩) hg).trans a2
      replace n1 := n1.below S.below (Nat.le_refl _)
      replace n2 := n2.below S.below (Nat.le_refl _)
      obtain ⟨d, hd⟩ : ∃ d, cmpR q.abs 1 = d := ⟨_, rfl⟩
      have HQ := Lib.hid (And.intro (HI.out.2.2.2.2.2.2.2.2.2.2.2 q (List.mem_of_getElem? hq)) (And.intro hlt hd))
      have hki : (k : Int) < ((m : Nat) : Int) := by omega
      have hk9 : (k : Int) ≤ 4 := by omega
      clear hg hq hlt hd hk
      have H := S.hnew 39 [.bool b, .slice p1 l1 K1, .slice p2 l2 K2]
      replace S := S.al 39 [.bool b, .slice p1 l1 K1, .slice p2 l2 K2] (wr.heap.size)
      replace n1 := n1.hold H; replace n2 := n2.hold H
      clear H; obtain ⟨c1_0, c1_1, c1_2⟩ := S.c3 1 rfl; go_wp2_with fail; clear c1_0 c1_1 c1_2
      refine (S.call (rabs_any ⟨b, p1, l1, K1, p2, l2, K2, rfl, hs, n1, n2⟩ (rb_max HQ.out.1 (by decide)))).mono ?_
      clear S
      rintro e w21 ⟨⟨_, rfl, b3, p3, l3, K3, q3, j3, J3, rfl, h3, n3, d3⟩, S, H⟩
      replace n1 := n1.hold H; replace n2 := n2.hold H
      clear H; obtain ⟨c1_0, c1_1, c1_2⟩ := S.c3 1 rfl; clear n1 n2; clear a0 a1 a2; go_wp2_with fail; clear c1_0 c1_1 c1_2
      refine (S.call (rof_any 1 1 _ (by decide) (by decide) (by decide) (by decide) (by decide) 1 (by decide +kernel))).mono ?_
      clear S
      rintro e w22 ⟨⟨_, rfl, b4, p4, l4, K4, q4, j4, J4, rfl, h4, n4, d4⟩, S, H⟩
      replace n3 := n3.hold H; replace d3 := d3.hold H
      clear H; obtain ⟨c1_0, c1_1, c1_2⟩ := S.c3 1 rfl; go_wp2_with fail; clear c1_0 c1_1 c1_2
      refine (S.call (rcompare_any ⟨b3, p3, l3, K3, q3, j3, J3, rfl, h3, n3, d3⟩ ⟨b4, p4, l4, K4, q4, j4, J4, rfl, h4, n4, d4⟩ (k1 := 3) (k2 := 1) (rb_abs3 HQ.out.1) rb_one1 (by decide) d HQ.out.2.2)).mono ?_
      clear S
      rintro e w23 ⟨rfl, S, H⟩
      refine iv4 H n3 d3 n4 d4 ?_; clear n3 d3 n4 d4; intro n3 d3 n4 d4
      clear H; obtain ⟨c1_0, c1_1, c1_2⟩ := S.c3 1 rfl
      by_cases h0 : 0 < d
      · skip
        go_wp2_with fail
        exact bodyPost_ret (v := .tuple #[.slice none 0 0, .int .i64 1]) (by simp [results, Tryz.f8, go_sem]) rfl (⟨⟨none, 0, 0, 1, rfl, fun _ => rfl, fun h => by cases h⟩, S.below⟩)
      go_wp2_with fail; clear c1_0 c1_1 c1_2
      replace S := S.take 1 (L := [(w.heap.size, 25, [.slice pc n cc, .slice pg m cg])]) rfl
      go_roundw
      case rel => exact ⟨k + 1, HQ.out.2.1, by go_num, S⟩
      case measure => have := HQ.out.2.1; simp [intOf]; omega
    · have hki : ¬ (k : Int) < ((m : Nat) : Int) := by omega
      clear hlt hk; have c0_0 := S.c 0 0 rfl rfl; have c0_1 := S.c 0 1 rfl rfl; go_wp2_with fail; clear c0_0 c0_1
      refine (S.callB (dcopy_any (HI.out.1.to S.below) (fun q hq => rb_max (HI.out.2.2.2.2.2.2.2.2.2.1 q hq) (by decide)) (by have := HI.out.2.2.2.2.2.2.2.1; omega))).mono ?_
      clear S
      rintro e w5 ⟨⟨g0, vs0, rfl, hg0, hh0, r0⟩, S, HB⟩
      have hP : Rats w5 (.slice (some ⟨g0, 0, none⟩) n n) cs := by
        have h := Rats.row (off := 0) (c := n) (lt_of_heap hh0) (by rw [HI.out.2.2.2.1]; exact Nat.le_refl _) (.of_heap hh0) r0
        rw [HI.out.2.2.2.1] at h
        exact h
      have HP := Lib.hid hP
      clear HB hg0 hh0 r0 hki hP; have c0_1 := S.c 0 1 rfl rfl; go_wp2_with fail; clear c0_1
      go_loopw [47, 10] (fun si sp wr => ∃ k : Nat, k ≤ m ∧ si = .int .i64 k ∧ ∃ p c, sp = .slice p n c ∧ Hid (∃ qs, Rats wr (.slice p n c) qs ∧ qs.length = n ∧ ∀ q, q ∈ qs → RB q (3 + 7 * k)) ∧ St w wr [(w.heap.size, 25, [.slice pc n cc, .slice pg m cg])]) (fun si _ _ => m - (intOf si).toNat)
      case atStart => exact ⟨0, by omega, rfl, _, _, rfl, ⟨cs, HP.out, HI.out.2.2.2.1, HI.out.2.2.2.2.2.2.2.2.2.1⟩, S⟩
      case round =>
        clear S HP
        obtain ⟨i, hi, rfl, p, c, rfl, hqs, S⟩ := hrel
        by_cases hli : i < m
        · obtain ⟨g2, off2, row, q2, d2, rfl, hg2, hrow, a5, hR⟩ := HI.out.2.1.get hli
          have hrl := HI.out.2.2.2.2.2.2.2.2.1 row (List.mem_of_getElem? hrow)
          rw [hrl] at a5 hR
          replace a5 := (S.below.cell (p := ⟨g2, off2 + i, none⟩) hg2).trans a5
          obtain ⟨g, off, q, v0, v1, v2, rfl, hg, hq, a0, a1, a2, b, p1, l1, K1, p2, l2, K2, rfl, rfl, rfl, hs, n1, n2⟩ := HI.out.2.2.1.get hli
          replace a0 := (S.below.cell (p := ⟨g, off + i * 3, none⟩) hg).trans a0
          replace a1 := (S.below.cell (p := ⟨g, off + i * 3 + 1, none⟩) hg).trans a1
          replace a2 := (S.below.cell (p := ⟨g, off + i * 3 + 2, none⟩) hg).trans a2
          replace n1 := n1.below S.below (Nat.le_refl _)
          replace n2 := n2.below S.below (Nat.le_refl _)
          have HQ := Lib.hid (And.intro hli (And.intro (HI.out.2.2.2.2.2.2.2.2.2.2.2 q (List.mem_of_getElem? hq)) (And.intro hrl (And.intro (HI.out.2.2.2.2.2.2.2.2.2.2.1 row (List.mem_of_getElem? hrow)) (hR.to S.below)))))
          have hii : (i : Int) < ((m : Nat) : Int) := by omega
          have hi9 : (i : Int) ≤ 4 := by omega
          have HN := Lib.hid (show n ≤ 1000000 by have := HI.out.2.2.2.2.2.2.2.1; omega)
          clear hg2 hrow hrl hR hg hq hli hi; go_wp2_with fail; clear a0 a1 a2 a5
          refine (S.callB (vscale_any HQ.out.2.2.2.2 ⟨b, p1, l1, K1, p2, l2, K2, rfl, hs, n1, n2⟩ n HQ.out.2.2.1 HN.out HQ.out.2.2.2.1 HQ.out.2.1 (by decide))).mono ?_
          clear S n1 n2 hs
          rintro e w6 ⟨⟨_, rfl, g6, vs6, rfl, hg6, hh6, r6⟩, S, HB⟩
          obtain ⟨qs, h1, h2, h3⟩ := hqs.out
          have hl6 : (row.map (· * q)).length = n := by rw [List.length_map]; exact HQ.out.2.2.1
          rw [hl6]
          have hG : Rats w6 (.slice (some ⟨g6, 0, none⟩) n n) (row.map (· * q)) := by
            have h := Rats.row (off := 0) (c := n) (lt_of_heap hh6) (by rw [hl6]; exact Nat.le_refl _) (.of_heap hh6) r6
            rw [hl6] at h
            exact h
          have HG := Lib.hid (And.intro (h1.to HB) (And.intro h2 (And.intro h3 (And.intro hG hl6))))
          clear HB hg6 hh6 r6 hl6 hG h1 h2 h3 hqs; go_wp2_with fail
          refine (S.callB (vadd_any HG.out.1 HG.out.2.2.2.1 n HG.out.2.1 HG.out.2.2.2.2 HN.out HG.out.2.2.1 (rb_mapmul HQ.out.2.2.2.1 HQ.out.2.1) (by have := HQ.out.1; have := HI.out.2.2.2.2.2.2.1; omega))).mono ?_
          clear S
          rintro e w7 ⟨⟨_, rfl, g7, vs7, rfl, hg7, hh7, r7⟩, S, HB⟩
          have hl7 : (List.zipWith (· + ·) qs (row.map (· * q))).length = n := by rw [List.length_zipWith, HG.out.2.1, HG.out.2.2.2.2, Nat.min_self]
          rw [hl7]
          have hH : Rats w7 (.slice (some ⟨g7, 0, none⟩) n n) (List.zipWith (· + ·) qs (row.map (· * q))) := by
            have h := Rats.row (off := 0) (c := n) (lt_of_heap hh7) (by rw [hl7]; exact Nat.le_refl _) (.of_heap hh7) r7
            rw [hl7] at h
            exact h
          have HH := Lib.hid (And.intro hH (And.intro hl7 (rb_zipadd HG.out.2.2.1 (rb_mapmul HQ.out.2.2.2.1 HQ.out.2.1))))
          clear HB hg7 hh7 r7 hl7 hH; go_wp2_with fail
          go_roundw
          case rel => exact ⟨i + 1, HQ.out.1, by go_num, _, _, rfl, ⟨_, HH.out.1, HH.out.2.1, fun q hq => (HH.out.2.2 q hq).mono (by omega)⟩, S⟩
          case measure => have := HQ.out.1; simp [intOf]; omega
        · have hii : ¬ (i : Int) < ((m : Nat) : Int) := by omega
          have him : i ≤ 4 := by have := HI.out.2.2.2.2.2.2.1; omega
          have HF : Hid ((0 : Int) = 0 → n = n ∧ ∃ qs, qs.length = n ∧ (∀ q, q ∈ qs → RB q 31) ∧ Rats wr (.slice p n c) qs) := fun _ => by
            obtain ⟨qs, h1, h2, h3⟩ := hqs.out
            exact ⟨rfl, qs, h2, fun q hq => (h3 q hq).mono (by omega), h1⟩
          clear hli hi hqs him; go_wp2_with fail
          exact bodyPost_ret (v := .tuple #[.slice p n c, .int .i64 0]) (by simp [results, Tryz.f8, go_sem]) rfl (by exact ⟨⟨p, n, c, 0, rfl, fun h => absurd rfl h, fun _ => ⟨rfl, (HF.out trivial).2⟩⟩, S.below⟩)
def RTab (w : World) (v : Value) (xss : List (List RawQ)) : Prop := ∃ p c, v = .slice p xss.length c ∧ (p = none → c = 0) ∧ xss.length ≤ c ∧ ∀ (j : Nat) xs, xss[j]? = some xs → ∃ g off rv, p = some ⟨g, off, none⟩ ∧ g < w.heap.size ∧ w.cell? ⟨g, off + j, none⟩ = some rv ∧ Raws w rv xs
theorem RTab.to {w w' : World} {v : Value} {xss : List (List RawQ)} (h : RTab w v xss) (hB : Below w.heap.size w w') : RTab w' v xss := by
  obtain ⟨p, c, e, h1, h2, h3⟩ := h
  refine ⟨p, c, e, h1, h2, fun j q hq => ?_⟩
  obtain ⟨g, off, rv, hp, hg, a0, hr⟩ := h3 j q hq
  exact ⟨g, off, rv, hp, Nat.lt_of_lt_of_le hg hB.size, (hB.cell (p := ⟨g, off + j, none⟩) hg).trans a0, hr.to hB⟩
theorem RTab.form {w : World} {v : Value} {xss : List (List RawQ)} (h : RTab w v xss) : ∃ p c, v = .slice p xss.length c := by
  obtain ⟨p, c, e, _⟩ := h
  exact ⟨p, c, e⟩
theorem RTab.tabs {w : World} {v : Value} {xss : List (List RawQ)} {A : List (List Rat)} {k : Nat} (h : RTab w v xss) (hl : A.length = xss.length) (hq : ∀ (j : Nat) xs r, xss[j]? = some xs → A[j]? = some r → AllQ k xs r) : Tabs2 w v A := by
  obtain ⟨p, c, e, h1, h2, h3⟩ := h
  refine ⟨p, c, by rw [e, hl], h1, by omega, fun j r hr => ?_⟩
  have hj := (List.getElem?_eq_some_iff.1 hr).1
  have hx : xss[j]? = some (xss[j]'(by omega)) := List.getElem?_eq_getElem _
  obtain ⟨g, off, rv, hp, hg, a0, hR⟩ := h3 j _ hx
  exact ⟨g, off, rv, hp, hg, a0, hR.rats (hq j _ r hx hr)⟩
theorem RTab.vals {w : World} {p : Option Addr} {n c : Nat} {xss : List (List RawQ)} (h : RTab w (.slice p n c) xss) : ∃ us : List Value, us.length = n ∧ ∀ (j : Nat) u, us[j]? = some u → u.oneCell' = true ∧ ∃ g off xs, xss[j]? = some xs ∧ p = some ⟨g, off, none⟩ ∧ g < w.heap.size ∧ w.cell? ⟨g, off + j, none⟩ = some u ∧ Raws w u xs := by
  obtain ⟨p', c', e, _, _, h3⟩ := h
  cases e
  refine list_of (P := fun j u => u.oneCell' = true ∧ ∃ g off xs, xss[j]? = some xs ∧ p = some ⟨g, off, none⟩ ∧ g < w.heap.size ∧ w.cell? ⟨g, off + j, none⟩ = some u ∧ Raws w u xs) _ fun j hj => ?_
  have hx : xss[j]? = some (xss[j]'hj) := List.getElem?_eq_getElem _
  obtain ⟨g, off, rv, hp, hg, a0, hR⟩ := h3 j _ hx
  obtain ⟨q, d, rfl⟩ := hR.form
  exact ⟨_, rfl, g, off, _, hx, hp, hg, a0, hR⟩
section
variable {ops : Array Oper} {rest : List Oper} {o : Oper} {a : Act} {Q : Exit → Act → World → Prop} {w : World}
theorem append_tabs (hg : o.guard = none) (s x : Operand) (ho : o.op = .call { callee := .builtin .append, args := #[s, x], argTypes := #[23, 23] }) (base : Nat) (v : Value) (n : Nat) (cs : List Value) (hs : a.eval s = v) (hown : w.ownsRow base 22 1 v n cs)
    (p : Option Addr) (l c : Nat) (us : List Value) (hx : a.eval x = .slice p l c) (hul : us.length = l) (hp : p = none → c = 0) (hat : ∀ (j : Nat) u, us[j]? = some u → u.oneCell' = true ∧ ∃ g off, p = some ⟨g, off, none⟩ ∧ w.cell? ⟨g, off + j, none⟩ = some u) (hcl : l ≤ c) (hl : n + l ≤ 100000) (hbase : base ≤ w.heap.size) (B : Nat) (w0 : World) (hb : Below B w0 w) (hB : B ≤ base)
    (hK : ∀ v' w', w'.ownsRow base 22 1 v' (n + l) (cs ++ us) → Below B w0 w' → w.grownBy w' v.ownBlock → wpList Tryz.prog ops Q rest (a.put o.dst v') w') :
    wpList Tryz.prog ops Q (o :: rest) a w := by
  obtain ⟨i, hi, hz, hsz, hby⟩ := info_parts info_list
  have hone : ∀ u ∈ us, u.oneCell' = true := fun u hu => by
    obtain ⟨j, hj⟩ := List.getElem?_of_mem hu
    exact (hat j u hj).1
  cases p with
  | none =>
    obtain rfl := hp rfl
    obtain rfl : us = [] := List.eq_nil_of_length_eq_zero (by omega)
    obtain rfl : l = 0 := by omega
    refine wpList_append_own_none hg s x 23 ho base 22 i 1 Tryz.underlying23 hi v n cs hs hown hx ?_
    exact hK v w (by simpa using hown) hb (World.grownBy.refl w _)
  | some ad =>
    refine wpList_append_own (P := Tryz.prog) w hg s x 23 ho base 22 i _ 1 24 Tryz.underlying23 hi hz hsz hby rfl (by decide) v n cs hs hown ad l c us hx (by omega) (fun j u hu => ?_) hone (by unfold maxLen; omega) (by omega) hbase (fun v' w' a1 a2 _ => hK v' w' a1 ?_ a2)
    · obtain ⟨_, g, off, e, hc⟩ := hat j u hu
      cases e
      have e : (⟨g, off, none⟩ : Addr).add j = ⟨g, off + j, none⟩ := by unfold Addr.add; split <;> simp_all
      rw [e]
      exact hc
    · exact hb.grown a2 (Nat.le_trans hB hbase) fun k hk => Nat.le_trans hB (World.ownsRow.lt hown k hk).1
end
end Go.Proofs.YtcfgefbkeeedgaaGreat
