/-
  What the statement stands on.
-/
import Derived.Test.YtcfgefbkeeedgaaGreatDoorM23
import Derived.Test.YtcfgefbkeeedgaaGreatDoorM29
namespace Go.Proofs.YtcfgefbkeeedgaaGreatDoor
open Go.RowKit
theorem bs_add (s t : ByteArray) : bs (s ++ t) = bs s ++ bs t := by simp [bs]
def IsRText (l : List Nat) (x : Rat) : Prop := (x.den = 1 ∧ IsIText l x.num) ∨ (x.den ≠ 1 ∧ ∃ t u, l = t ++ 47 :: u ∧ IsIText t x.num ∧ IsText u x.den)
theorem itext_len {l : List Nat} {x : Int} (h : IsIText l x) (hx : x.natAbs < maxN) : l.length ≤ 5464 := by
  rcases h with ⟨_, t, rfl, h⟩ | ⟨_, h⟩
  · have := text_len h hx; simp; omega
  · have := text_len h hx; omega
theorem cmpI_one (m : Nat) (h : m ≠ 0) : (cmpI (m : Int) ((1 : Nat) : Int) == 0) = decide (m = 1) := by
  rw [Bool.eq_iff_iff]
  simp [cmpI]
  split
  · omega
  · split
    · omega
    · omega
theorem wtext_sz {va : Value} {x : Int} {w : World} (ha : IsInt w va x) (hx : x.natAbs < maxN) :
    Calls Tryz.prog 133 #[va] w fun e w' => (∃ s, e = .returned (.string s) ∧ s.size ≤ 5464 ∧ Hid (IsIText (bs s) x)) ∧ Below w.heap.size w w' :=
  (wtext_any ha hx).mono fun _ _ h => ⟨⟨h.1.choose, h.1.choose_spec.1, by rw [← bs_len]; exact itext_len h.1.choose_spec.2 hx, h.1.choose_spec.2⟩, h.2⟩
theorem text_sz {va : Value} {x : Nat} {w : World} (ha : IsNat w va x) (hx : x < maxN) :
    Calls Tryz.prog 134 #[va] w fun e w' => (∃ s, e = .returned (.string s) ∧ s.size ≤ 5463 ∧ Hid (IsText (bs s) x)) ∧ Below w.heap.size w w' :=
  (text_any ha hx).mono fun _ _ h => ⟨⟨h.1.choose, h.1.choose_spec.1, by rw [← bs_len]; exact text_len h.1.choose_spec.2 hx, h.1.choose_spec.2⟩, h.2⟩
set_option maxRecDepth 100000 in
set_option maxHeartbeats 4000000 in
theorem rtext_any {va : Value} {x : Rat} {w : World} (ha : IsRat w va x) (hx : x.num.natAbs < maxN ∧ x.den < maxN) :
    Calls Tryz.prog 85 #[va] w fun e w' => (∃ s, e = .returned (.string s) ∧ IsRText (bs s) x) ∧ Below w.heap.size w w' := by
  obtain ⟨b1, p1, l1, K1, q1, j1, J1, rfl, hb1, n1, d1⟩ := ha
  obtain ⟨c, hc⟩ : ∃ c, cmpI (x.den : Int) ((1 : Nat) : Int) = c := ⟨_, rfl⟩
  have HX := Lib.hid hx
  have HC := Lib.hid hc
  have h1 := cmpI_one x.den x.den_nz
  rw [hc] at h1
  clear hx hc
  by_cases hd : x.den = 1
  · have hcz : (c == 0) = true := by rw [h1]; exact decide_eq_true hd
    have HD := Lib.hid hd
    clear h1 hd
    have S := (St.start w).alloc 34 [.bool b1, .slice p1 l1 K1, .slice q1 j1 J1] (w.heap.size)
    try simp only [List.nil_append] at S
    replace n1 := n1.hold S.hold; replace d1 := d1.hold S.hold
    obtain ⟨c0_0, c0_1, c0_2⟩ := S.c3 0 rfl
    go_enter Tryz.func85, Tryz.ntmps85
    go_upto_region 1 with fail
    clear c0_0 c0_1 c0_2
    generalize (w.alloc (.cells #[.bool b1, .slice p1 l1 K1, .slice q1 j1 J1] 34)) = w1 at S n1 d1 ⊢
    have HH := Hold.drew w1
    replace n1 := n1.hold HH; replace d1 := d1.hold HH
    replace S := S.drew
    refine wp_region_held_drew (S := fun W => W.cell? ⟨w.heap.size, 0, none⟩ = some (.bool b1) ∧ W.cell? ⟨w.heap.size, 1, none⟩ = some (.slice p1 l1 K1) ∧ W.cell? ⟨w.heap.size, 2, none⟩ = some (.slice q1 j1 J1)) (by kernel_rfl) (S.c3 0 rfl) (fun hS => ?_)
    generalize w1.drew = w2 at S n1 d1 HH hS ⊢
    refine tkl 0 hS ?_
    refine tkl 1 hS ?_
    refine rd 2 fun KK hKK => ?_
    go_simp; clear hS
    refine (S.call (of_any 1 _ (by decide))).mono ?_
    clear S
    rintro e w3 ⟨⟨vo, rfl, no⟩, S, H⟩
    replace n1 := n1.hold H; replace d1 := d1.hold H; replace HH := HH.trans H; clear H
    go_wp2_with fail
    refine ho hKK (S.c3 0 rfl) fun hS => ?_
    clear hKK KK
    refine rd 3 fun KK hKK => ?_
    go_simp; clear hS
    refine (S.call (compare_nat d1 no HX.out.2 (lt_maxN (by decide)) HC.out)).mono ?_
    clear S
    rintro e w4 ⟨rfl, S, H⟩
    refine iv3 H n1 d1 no ?_; clear n1 d1 no; intro n1 d1 no; replace HH := HH.trans H; clear H
    go_wp2_with fail
    refine ho hKK (S.c3 0 rfl) fun hS => ?_
    clear hKK KK
    refine tkl 4 hS ?_
    refine wpAnyH_done (by kernel_rfl) ?_ _
    clear hS HH; obtain ⟨c0_0, c0_1, c0_2⟩ := S.c3 0 rfl; go_wp2_with fail; clear c0_0 c0_1 c0_2
    refine (S.call (wtext_any ⟨_, _, _, by rw [hb1.out], n1⟩ HX.out.1)).mono ?_
    clear S
    rintro e w5 ⟨⟨s, rfl, hs⟩, S, H⟩
    refine iv3 H n1 d1 no ?_; clear n1 d1 no; intro n1 d1 no
    clear H; obtain ⟨c0_0, c0_1, c0_2⟩ := S.c3 0 rfl; go_wp2_with fail
    exact bodyPost_ret (v := .string s) (by simp [results, Tryz.f85, go_sem]) rfl (⟨⟨s, rfl, .inl ⟨HD.out, hs⟩⟩, S.below⟩)
  · have hcz : (c == 0) = false := by rw [h1]; exact decide_eq_false hd
    have HD := Lib.hid hd
    clear h1 hd
    have S := (St.start w).alloc 34 [.bool b1, .slice p1 l1 K1, .slice q1 j1 J1] (w.heap.size)
    try simp only [List.nil_append] at S
    replace n1 := n1.hold S.hold; replace d1 := d1.hold S.hold
    obtain ⟨c0_0, c0_1, c0_2⟩ := S.c3 0 rfl
    go_enter Tryz.func85, Tryz.ntmps85
    go_upto_region 1 with fail
    clear c0_0 c0_1 c0_2
    generalize (w.alloc (.cells #[.bool b1, .slice p1 l1 K1, .slice q1 j1 J1] 34)) = w1 at S n1 d1 ⊢
    have HH := Hold.drew w1
    replace n1 := n1.hold HH; replace d1 := d1.hold HH
    replace S := S.drew
    refine wp_region_held_drew (S := fun W => W.cell? ⟨w.heap.size, 0, none⟩ = some (.bool b1) ∧ W.cell? ⟨w.heap.size, 1, none⟩ = some (.slice p1 l1 K1) ∧ W.cell? ⟨w.heap.size, 2, none⟩ = some (.slice q1 j1 J1)) (by kernel_rfl) (S.c3 0 rfl) (fun hS => ?_)
    generalize w1.drew = w2 at S n1 d1 HH hS ⊢
    refine tkl 0 hS ?_
    refine tkl 1 hS ?_
    refine rd 2 fun KK hKK => ?_
    go_simp; clear hS
    refine (S.call (of_any 1 _ (by decide))).mono ?_
    clear S
    rintro e w3 ⟨⟨vo, rfl, no⟩, S, H⟩
    replace n1 := n1.hold H; replace d1 := d1.hold H; replace HH := HH.trans H; clear H
    go_wp2_with fail
    refine ho hKK (S.c3 0 rfl) fun hS => ?_
    clear hKK KK
    refine rd 3 fun KK hKK => ?_
    go_simp; clear hS
    refine (S.call (compare_nat d1 no HX.out.2 (lt_maxN (by decide)) HC.out)).mono ?_
    clear S
    rintro e w4 ⟨rfl, S, H⟩
    refine iv3 H n1 d1 no ?_; clear n1 d1 no; intro n1 d1 no; replace HH := HH.trans H; clear H
    go_wp2_with fail
    refine ho hKK (S.c3 0 rfl) fun hS => ?_
    clear hKK KK
    refine tkl 4 hS ?_
    refine wpAnyH_done (by kernel_rfl) ?_ _
    clear hS HH; obtain ⟨c0_0, c0_1, c0_2⟩ := S.c3 0 rfl
    go_upto_region 3 with fail
    clear c0_0 c0_1 c0_2
    have HH := Hold.drew w4
    refine iv3 HH n1 d1 no ?_; clear n1 d1 no; intro n1 d1 no
    replace S := S.drew
    refine wp_region_held_drew (S := fun W => W.cell? ⟨w.heap.size, 0, none⟩ = some (.bool b1) ∧ W.cell? ⟨w.heap.size, 1, none⟩ = some (.slice p1 l1 K1) ∧ W.cell? ⟨w.heap.size, 2, none⟩ = some (.slice q1 j1 J1)) (by kernel_rfl) (S.c3 0 rfl) (fun hS => ?_)
    generalize w4.drew = w5 at S n1 d1 no HH hS ⊢
    refine tkl 0 hS ?_
    refine tkl 1 hS ?_
    refine tkl 4 hS ?_
    refine tkl 5 hS ?_
    refine rd 2 fun KK hKK => ?_
    go_simp; clear hS
    refine (S.call (wtext_sz ⟨_, _, _, by rw [hb1.out], n1⟩ HX.out.1)).mono ?_
    clear S
    rintro e w6 ⟨⟨s, rfl, ls, hs⟩, S, H⟩
    refine iv3 H n1 d1 no ?_; clear n1 d1 no; intro n1 d1 no; replace HH := HH.trans H; clear H
    go_wp2_with fail
    refine ho hKK (S.c3 0 rfl) fun hS => ?_
    clear hKK KK
    refine tkl 3 hS ?_
    refine rd 6 fun KK hKK => ?_
    go_simp; clear hS
    refine (S.call (text_sz d1 HX.out.2)).mono ?_
    clear S
    rintro e w7 ⟨⟨t, rfl, lt, ht⟩, S, H⟩
    refine iv3 H n1 d1 no ?_; clear n1 d1 no; intro n1 d1 no; replace HH := HH.trans H; clear H
    go_wp2_with fail
    refine ho hKK (S.c3 0 rfl) fun hS => ?_
    clear hKK KK
    refine tkl 7 hS ?_
    refine rd 8 fun KK hKK => ?_
    go_simp
    refine ho hKK hS fun hS => ?_
    clear hKK KK
    refine wpAnyH_done (by kernel_rfl) ?_ _
    clear hS HH; obtain ⟨c0_0, c0_1, c0_2⟩ := S.c3 0 rfl; go_wp2_with fail
    exact bodyPost_ret (v := .string (s ++ ⟨#[47]⟩ ++ t)) (by simp [results, Tryz.f85, go_sem]) rfl (⟨⟨_, rfl, .inr ⟨HD.out, _, _, by rw [bs_add, bs_add]; exact List.append_assoc _ _ _, hs.out, ht.out⟩⟩, S.below⟩)
theorem IsRText.uniq {l m : List Nat} {x : Rat} (h : IsRText l x) (g : IsRText m x) : l = m := by
  rcases h with ⟨h0, h1⟩ | ⟨h0, t, u, rfl, h1, h2⟩ <;> rcases g with ⟨g0, g1⟩ | ⟨g0, t', u', rfl, g1, g2⟩
  · exact h1.uniq g1
  · exact absurd h0 g0
  · exact absurd g0 h0
  · rw [h1.uniq g1, h2.uniq g2]
theorem rtext_lit {va : Value} {x : Rat} {w : World} (ha : IsRat w va x) (s : ByteArray) (hx : x.num.natAbs < maxN ∧ x.den < maxN) (hs : IsRText (bs s) x) :
    Calls Tryz.prog 85 #[va] w fun e w' => e = .returned (.string s) ∧ Below w.heap.size w w' :=
  (rtext_any ha hx).mono fun _ _ h => ⟨by obtain ⟨t, h1, h2⟩ := h.1; rw [h1, bs_inj (h2.uniq hs)], h.2⟩
theorem rb_one {x : Rat} (h1 : x.num.natAbs < 4294967296) (h2 : x.den < 4294967296) : RB x 1 := ⟨by rw [NB_one]; exact h1, by rw [NB_one]; exact h2⟩
theorem rtext_frac (n : Int) (d : Nat) (x : Rat) (hn : x.num = n) (hd : x.den = d) (t u l : List Nat) (hl : l = t ++ 47 :: u) (h1 : d ≠ 1) (ht : IsIText t n) (hu : IsText u d) : IsRText l x :=
  .inr ⟨by rw [hd]; exact h1, t, u, hl, by rw [hn]; exact ht, by rw [hd]; exact hu⟩
set_option maxRecDepth 100000 in
set_option maxHeartbeats 4000000 in
theorem shasr_lt_eq {va vb : Value} {x y z : Rat} {L H k1 k2 : Nat} {w : World} (ha : IsSp w va x y L H) (hb : IsRat w vb z) (hLH : H + L + 1 ≤ 16384) (hx : H + L + 1 ≤ 32 * k1) (hy : RB z k2) (hk : k1 + k2 ≤ 511) (hc : cmpR x z = -1) (hd : cmpR y z = 0) :
    Calls Tryz.prog 47 #[va, vb] w fun e w' => e = .returned (.tuple #[.bool true, .int .i64 0]) ∧ Below w.heap.size w w' := by
  obtain ⟨b1, p1, l1, K1, m1, e1, b2, p2, l2, K2, m2, e2, rfl, h1, n1, d1, h2, n2, d2⟩ := ha
  obtain ⟨bq, pq, lq, Kq, qq, jq, Jq, rfl, hbq, nq, dq1⟩ := hb
  have HK := Lib.hid (And.intro hLH (And.intro hx (And.intro hy (And.intro hk (And.intro hc hd)))))
  clear hLH hx hy hk hc hd
  have S := ((St.start w).alloc 29 [.bool b1, .slice p1 l1 K1, .int .i64 e1, .bool b2, .slice p2 l2 K2, .int .i64 e2] (w.heap.size)).alloc 34 [.bool bq, .slice pq lq Kq, .slice qq jq Jq] (w.heap.size + 1)
  try simp only [List.cons_append, List.nil_append] at S
  refine iv4 S.hold n1 n2 nq dq1 ?_; clear n1 n2 nq dq1; intro n1 n2 nq dq1
  obtain ⟨c0_0, c0_1, c0_2, c0_3, c0_4, c0_5⟩ := S.c6 0 rfl; obtain ⟨c1_0, c1_1, c1_2⟩ := S.c3 1 rfl
  go_enter Tryz.func47, Tryz.ntmps47
  go_wp2_with fail; clear c0_0 c0_1 c0_2 c0_3 c0_4 c0_5 c1_0 c1_1 c1_2
  refine (S.call (dcmp_any ⟨b1, p1, l1, K1, m1, e1, rfl, h1, n1, d1⟩ ⟨bq, pq, lq, Kq, qq, jq, Jq, rfl, hbq, nq, dq1⟩ HK.out.1 HK.out.2.1 HK.out.2.2.1 HK.out.2.2.2.1 (-1) HK.out.2.2.2.2.1)).mono ?_
  clear S
  rintro e w1 ⟨rfl, S, H⟩
  refine iv4 H n1 n2 nq dq1 ?_; clear n1 n2 nq dq1; intro n1 n2 nq dq1
  clear H; obtain ⟨c0_0, c0_1, c0_2, c0_3, c0_4, c0_5⟩ := S.c6 0 rfl; obtain ⟨c1_0, c1_1, c1_2⟩ := S.c3 1 rfl; go_wp2_with fail; clear c0_0 c0_1 c0_2 c0_3 c0_4 c0_5 c1_0 c1_1 c1_2
  refine (S.call (dcmp_any ⟨b2, p2, l2, K2, m2, e2, rfl, h2, n2, d2⟩ ⟨bq, pq, lq, Kq, qq, jq, Jq, rfl, hbq, nq, dq1⟩ HK.out.1 HK.out.2.1 HK.out.2.2.1 HK.out.2.2.2.1 (0) HK.out.2.2.2.2.2)).mono ?_
  clear S
  rintro e w2 ⟨rfl, S, H⟩
  refine iv4 H n1 n2 nq dq1 ?_; clear n1 n2 nq dq1; intro n1 n2 nq dq1
  clear H; obtain ⟨c0_0, c0_1, c0_2, c0_3, c0_4, c0_5⟩ := S.c6 0 rfl; obtain ⟨c1_0, c1_1, c1_2⟩ := S.c3 1 rfl
  have H := S.hnew 36 [.int .i64 0, .int .i64 0]
  replace S := S.al 36 [.int .i64 0, .int .i64 0] (w2.heap.size)
  refine iv4 H n1 n2 nq dq1 ?_; clear n1 n2 nq dq1; intro n1 n2 nq dq1
  clear H; go_wp2_with fail; clear c0_0 c0_1 c0_2 c0_3 c0_4 c0_5 c1_0 c1_1 c1_2
  refine (S.call (or_two S 2 rfl)).mono ?_
  clear S
  rintro e w3 ⟨rfl, S, H⟩
  refine iv4 H n1 n2 nq dq1 ?_; clear n1 n2 nq dq1; intro n1 n2 nq dq1
  clear H; obtain ⟨c0_0, c0_1, c0_2, c0_3, c0_4, c0_5⟩ := S.c6 0 rfl; obtain ⟨c1_0, c1_1, c1_2⟩ := S.c3 1 rfl; go_wp2_with fail
  exact bodyPost_ret (v := .tuple #[.bool true, .int .i64 0]) (by simp [results, Tryz.f47, go_sem]) rfl (⟨rfl, S.below⟩)
set_option maxRecDepth 100000 in
set_option maxHeartbeats 4000000 in
theorem shasr_lt_gt {va vb : Value} {x y z : Rat} {L H k1 k2 : Nat} {w : World} (ha : IsSp w va x y L H) (hb : IsRat w vb z) (hLH : H + L + 1 ≤ 16384) (hx : H + L + 1 ≤ 32 * k1) (hy : RB z k2) (hk : k1 + k2 ≤ 511) (hc : cmpR x z = -1) (hd : cmpR y z = 1) :
    Calls Tryz.prog 47 #[va, vb] w fun e w' => e = .returned (.tuple #[.bool true, .int .i64 0]) ∧ Below w.heap.size w w' := by
  obtain ⟨b1, p1, l1, K1, m1, e1, b2, p2, l2, K2, m2, e2, rfl, h1, n1, d1, h2, n2, d2⟩ := ha
  obtain ⟨bq, pq, lq, Kq, qq, jq, Jq, rfl, hbq, nq, dq1⟩ := hb
  have HK := Lib.hid (And.intro hLH (And.intro hx (And.intro hy (And.intro hk (And.intro hc hd)))))
  clear hLH hx hy hk hc hd
  have S := ((St.start w).alloc 29 [.bool b1, .slice p1 l1 K1, .int .i64 e1, .bool b2, .slice p2 l2 K2, .int .i64 e2] (w.heap.size)).alloc 34 [.bool bq, .slice pq lq Kq, .slice qq jq Jq] (w.heap.size + 1)
  try simp only [List.cons_append, List.nil_append] at S
  refine iv4 S.hold n1 n2 nq dq1 ?_; clear n1 n2 nq dq1; intro n1 n2 nq dq1
  obtain ⟨c0_0, c0_1, c0_2, c0_3, c0_4, c0_5⟩ := S.c6 0 rfl; obtain ⟨c1_0, c1_1, c1_2⟩ := S.c3 1 rfl
  go_enter Tryz.func47, Tryz.ntmps47
  go_wp2_with fail; clear c0_0 c0_1 c0_2 c0_3 c0_4 c0_5 c1_0 c1_1 c1_2
  refine (S.call (dcmp_any ⟨b1, p1, l1, K1, m1, e1, rfl, h1, n1, d1⟩ ⟨bq, pq, lq, Kq, qq, jq, Jq, rfl, hbq, nq, dq1⟩ HK.out.1 HK.out.2.1 HK.out.2.2.1 HK.out.2.2.2.1 (-1) HK.out.2.2.2.2.1)).mono ?_
  clear S
  rintro e w1 ⟨rfl, S, H⟩
  refine iv4 H n1 n2 nq dq1 ?_; clear n1 n2 nq dq1; intro n1 n2 nq dq1
  clear H; obtain ⟨c0_0, c0_1, c0_2, c0_3, c0_4, c0_5⟩ := S.c6 0 rfl; obtain ⟨c1_0, c1_1, c1_2⟩ := S.c3 1 rfl; go_wp2_with fail; clear c0_0 c0_1 c0_2 c0_3 c0_4 c0_5 c1_0 c1_1 c1_2
  refine (S.call (dcmp_any ⟨b2, p2, l2, K2, m2, e2, rfl, h2, n2, d2⟩ ⟨bq, pq, lq, Kq, qq, jq, Jq, rfl, hbq, nq, dq1⟩ HK.out.1 HK.out.2.1 HK.out.2.2.1 HK.out.2.2.2.1 (1) HK.out.2.2.2.2.2)).mono ?_
  clear S
  rintro e w2 ⟨rfl, S, H⟩
  refine iv4 H n1 n2 nq dq1 ?_; clear n1 n2 nq dq1; intro n1 n2 nq dq1
  clear H; obtain ⟨c0_0, c0_1, c0_2, c0_3, c0_4, c0_5⟩ := S.c6 0 rfl; obtain ⟨c1_0, c1_1, c1_2⟩ := S.c3 1 rfl
  have H := S.hnew 36 [.int .i64 0, .int .i64 0]
  replace S := S.al 36 [.int .i64 0, .int .i64 0] (w2.heap.size)
  refine iv4 H n1 n2 nq dq1 ?_; clear n1 n2 nq dq1; intro n1 n2 nq dq1
  clear H; go_wp2_with fail; clear c0_0 c0_1 c0_2 c0_3 c0_4 c0_5 c1_0 c1_1 c1_2
  refine (S.call (or_two S 2 rfl)).mono ?_
  clear S
  rintro e w3 ⟨rfl, S, H⟩
  refine iv4 H n1 n2 nq dq1 ?_; clear n1 n2 nq dq1; intro n1 n2 nq dq1
  clear H; obtain ⟨c0_0, c0_1, c0_2, c0_3, c0_4, c0_5⟩ := S.c6 0 rfl; obtain ⟨c1_0, c1_1, c1_2⟩ := S.c3 1 rfl; go_wp2_with fail
  exact bodyPost_ret (v := .tuple #[.bool true, .int .i64 0]) (by simp [results, Tryz.f47, go_sem]) rfl (⟨rfl, S.below⟩)
set_option maxRecDepth 100000 in
set_option maxHeartbeats 4000000 in
theorem shasr_eq_eq {va vb : Value} {x y z : Rat} {L H k1 k2 : Nat} {w : World} (ha : IsSp w va x y L H) (hb : IsRat w vb z) (hLH : H + L + 1 ≤ 16384) (hx : H + L + 1 ≤ 32 * k1) (hy : RB z k2) (hk : k1 + k2 ≤ 511) (hc : cmpR x z = 0) (hd : cmpR y z = 0) :
    Calls Tryz.prog 47 #[va, vb] w fun e w' => e = .returned (.tuple #[.bool true, .int .i64 0]) ∧ Below w.heap.size w w' := by
  obtain ⟨b1, p1, l1, K1, m1, e1, b2, p2, l2, K2, m2, e2, rfl, h1, n1, d1, h2, n2, d2⟩ := ha
  obtain ⟨bq, pq, lq, Kq, qq, jq, Jq, rfl, hbq, nq, dq1⟩ := hb
  have HK := Lib.hid (And.intro hLH (And.intro hx (And.intro hy (And.intro hk (And.intro hc hd)))))
  clear hLH hx hy hk hc hd
  have S := ((St.start w).alloc 29 [.bool b1, .slice p1 l1 K1, .int .i64 e1, .bool b2, .slice p2 l2 K2, .int .i64 e2] (w.heap.size)).alloc 34 [.bool bq, .slice pq lq Kq, .slice qq jq Jq] (w.heap.size + 1)
  try simp only [List.cons_append, List.nil_append] at S
  refine iv4 S.hold n1 n2 nq dq1 ?_; clear n1 n2 nq dq1; intro n1 n2 nq dq1
  obtain ⟨c0_0, c0_1, c0_2, c0_3, c0_4, c0_5⟩ := S.c6 0 rfl; obtain ⟨c1_0, c1_1, c1_2⟩ := S.c3 1 rfl
  go_enter Tryz.func47, Tryz.ntmps47
  go_wp2_with fail; clear c0_0 c0_1 c0_2 c0_3 c0_4 c0_5 c1_0 c1_1 c1_2
  refine (S.call (dcmp_any ⟨b1, p1, l1, K1, m1, e1, rfl, h1, n1, d1⟩ ⟨bq, pq, lq, Kq, qq, jq, Jq, rfl, hbq, nq, dq1⟩ HK.out.1 HK.out.2.1 HK.out.2.2.1 HK.out.2.2.2.1 (0) HK.out.2.2.2.2.1)).mono ?_
  clear S
  rintro e w1 ⟨rfl, S, H⟩
  refine iv4 H n1 n2 nq dq1 ?_; clear n1 n2 nq dq1; intro n1 n2 nq dq1
  clear H; obtain ⟨c0_0, c0_1, c0_2, c0_3, c0_4, c0_5⟩ := S.c6 0 rfl; obtain ⟨c1_0, c1_1, c1_2⟩ := S.c3 1 rfl; go_wp2_with fail; clear c0_0 c0_1 c0_2 c0_3 c0_4 c0_5 c1_0 c1_1 c1_2
  refine (S.call (dcmp_any ⟨b2, p2, l2, K2, m2, e2, rfl, h2, n2, d2⟩ ⟨bq, pq, lq, Kq, qq, jq, Jq, rfl, hbq, nq, dq1⟩ HK.out.1 HK.out.2.1 HK.out.2.2.1 HK.out.2.2.2.1 (0) HK.out.2.2.2.2.2)).mono ?_
  clear S
  rintro e w2 ⟨rfl, S, H⟩
  refine iv4 H n1 n2 nq dq1 ?_; clear n1 n2 nq dq1; intro n1 n2 nq dq1
  clear H; obtain ⟨c0_0, c0_1, c0_2, c0_3, c0_4, c0_5⟩ := S.c6 0 rfl; obtain ⟨c1_0, c1_1, c1_2⟩ := S.c3 1 rfl
  have H := S.hnew 36 [.int .i64 0, .int .i64 0]
  replace S := S.al 36 [.int .i64 0, .int .i64 0] (w2.heap.size)
  refine iv4 H n1 n2 nq dq1 ?_; clear n1 n2 nq dq1; intro n1 n2 nq dq1
  clear H; go_wp2_with fail; clear c0_0 c0_1 c0_2 c0_3 c0_4 c0_5 c1_0 c1_1 c1_2
  refine (S.call (or_two S 2 rfl)).mono ?_
  clear S
  rintro e w3 ⟨rfl, S, H⟩
  refine iv4 H n1 n2 nq dq1 ?_; clear n1 n2 nq dq1; intro n1 n2 nq dq1
  clear H; obtain ⟨c0_0, c0_1, c0_2, c0_3, c0_4, c0_5⟩ := S.c6 0 rfl; obtain ⟨c1_0, c1_1, c1_2⟩ := S.c3 1 rfl; go_wp2_with fail
  exact bodyPost_ret (v := .tuple #[.bool true, .int .i64 0]) (by simp [results, Tryz.f47, go_sem]) rfl (⟨rfl, S.below⟩)
set_option maxRecDepth 100000 in
set_option maxHeartbeats 4000000 in
theorem shasr_eq_gt {va vb : Value} {x y z : Rat} {L H k1 k2 : Nat} {w : World} (ha : IsSp w va x y L H) (hb : IsRat w vb z) (hLH : H + L + 1 ≤ 16384) (hx : H + L + 1 ≤ 32 * k1) (hy : RB z k2) (hk : k1 + k2 ≤ 511) (hc : cmpR x z = 0) (hd : cmpR y z = 1) :
    Calls Tryz.prog 47 #[va, vb] w fun e w' => e = .returned (.tuple #[.bool true, .int .i64 0]) ∧ Below w.heap.size w w' := by
  obtain ⟨b1, p1, l1, K1, m1, e1, b2, p2, l2, K2, m2, e2, rfl, h1, n1, d1, h2, n2, d2⟩ := ha
  obtain ⟨bq, pq, lq, Kq, qq, jq, Jq, rfl, hbq, nq, dq1⟩ := hb
  have HK := Lib.hid (And.intro hLH (And.intro hx (And.intro hy (And.intro hk (And.intro hc hd)))))
  clear hLH hx hy hk hc hd
  have S := ((St.start w).alloc 29 [.bool b1, .slice p1 l1 K1, .int .i64 e1, .bool b2, .slice p2 l2 K2, .int .i64 e2] (w.heap.size)).alloc 34 [.bool bq, .slice pq lq Kq, .slice qq jq Jq] (w.heap.size + 1)
  try simp only [List.cons_append, List.nil_append] at S
  refine iv4 S.hold n1 n2 nq dq1 ?_; clear n1 n2 nq dq1; intro n1 n2 nq dq1
  obtain ⟨c0_0, c0_1, c0_2, c0_3, c0_4, c0_5⟩ := S.c6 0 rfl; obtain ⟨c1_0, c1_1, c1_2⟩ := S.c3 1 rfl
  go_enter Tryz.func47, Tryz.ntmps47
  go_wp2_with fail; clear c0_0 c0_1 c0_2 c0_3 c0_4 c0_5 c1_0 c1_1 c1_2
  refine (S.call (dcmp_any ⟨b1, p1, l1, K1, m1, e1, rfl, h1, n1, d1⟩ ⟨bq, pq, lq, Kq, qq, jq, Jq, rfl, hbq, nq, dq1⟩ HK.out.1 HK.out.2.1 HK.out.2.2.1 HK.out.2.2.2.1 (0) HK.out.2.2.2.2.1)).mono ?_
  clear S
  rintro e w1 ⟨rfl, S, H⟩
  refine iv4 H n1 n2 nq dq1 ?_; clear n1 n2 nq dq1; intro n1 n2 nq dq1
  clear H; obtain ⟨c0_0, c0_1, c0_2, c0_3, c0_4, c0_5⟩ := S.c6 0 rfl; obtain ⟨c1_0, c1_1, c1_2⟩ := S.c3 1 rfl; go_wp2_with fail; clear c0_0 c0_1 c0_2 c0_3 c0_4 c0_5 c1_0 c1_1 c1_2
  refine (S.call (dcmp_any ⟨b2, p2, l2, K2, m2, e2, rfl, h2, n2, d2⟩ ⟨bq, pq, lq, Kq, qq, jq, Jq, rfl, hbq, nq, dq1⟩ HK.out.1 HK.out.2.1 HK.out.2.2.1 HK.out.2.2.2.1 (1) HK.out.2.2.2.2.2)).mono ?_
  clear S
  rintro e w2 ⟨rfl, S, H⟩
  refine iv4 H n1 n2 nq dq1 ?_; clear n1 n2 nq dq1; intro n1 n2 nq dq1
  clear H; obtain ⟨c0_0, c0_1, c0_2, c0_3, c0_4, c0_5⟩ := S.c6 0 rfl; obtain ⟨c1_0, c1_1, c1_2⟩ := S.c3 1 rfl
  have H := S.hnew 36 [.int .i64 0, .int .i64 0]
  replace S := S.al 36 [.int .i64 0, .int .i64 0] (w2.heap.size)
  refine iv4 H n1 n2 nq dq1 ?_; clear n1 n2 nq dq1; intro n1 n2 nq dq1
  clear H; go_wp2_with fail; clear c0_0 c0_1 c0_2 c0_3 c0_4 c0_5 c1_0 c1_1 c1_2
  refine (S.call (or_two S 2 rfl)).mono ?_
  clear S
  rintro e w3 ⟨rfl, S, H⟩
  refine iv4 H n1 n2 nq dq1 ?_; clear n1 n2 nq dq1; intro n1 n2 nq dq1
  clear H; obtain ⟨c0_0, c0_1, c0_2, c0_3, c0_4, c0_5⟩ := S.c6 0 rfl; obtain ⟨c1_0, c1_1, c1_2⟩ := S.c3 1 rfl; go_wp2_with fail
  exact bodyPost_ret (v := .tuple #[.bool true, .int .i64 0]) (by simp [results, Tryz.f47, go_sem]) rfl (⟨rfl, S.below⟩)
set_option maxRecDepth 100000 in
set_option maxHeartbeats 4000000 in
theorem stext_lit {va : Value} {x y : Rat} {w : World} {L H : Nat} (ha : IsSp w va x y L H) (hLH : H + L + 1 ≤ 16384) (s t : ByteArray) (hx : x.num.natAbs < maxN ∧ x.den < maxN) (hy : y.num.natAbs < maxN ∧ y.den < maxN) (hs : IsRText (bs s) x) (ht : IsRText (bs t) y) (ls : s.size ≤ 1000) (lt : t.size ≤ 1000) :
    Calls Tryz.prog 63 #[va] w fun e w' => e = .returned (.string (s ++ ⟨#[46, 46]⟩ ++ t)) ∧ Below w.heap.size w w' := by
  obtain ⟨b1, p1, l1, K1, m1, e1, b2, p2, l2, K2, m2, e2, rfl, h1, n1, d1, h2, n2, d2⟩ := ha
  have HK := Lib.hid (And.intro hLH (And.intro hx (And.intro hy (And.intro hs ht))))
  clear hLH hx hy hs ht
  have S := (St.start w).alloc 29 [.bool b1, .slice p1 l1 K1, .int .i64 e1, .bool b2, .slice p2 l2 K2, .int .i64 e2] (w.heap.size)
  try simp only [List.nil_append] at S
  replace n1 := n1.hold S.hold; replace n2 := n2.hold S.hold
  obtain ⟨c0_0, c0_1, c0_2, c0_3, c0_4, c0_5⟩ := S.c6 0 rfl
  go_enter Tryz.func63, Tryz.ntmps63
  go_wp2_with fail; clear c0_0 c0_1 c0_2 c0_3 c0_4 c0_5
  refine (S.call (dratio_any ⟨b1, p1, l1, K1, m1, e1, rfl, h1, n1, d1⟩ HK.out.1)).mono ?_
  clear S
  rintro e w1 ⟨⟨_, rfl, bA, pA, lA, KA, qA, jA, JA, rfl, hA, nA, dA⟩, S, H⟩
  replace n1 := n1.hold H; replace n2 := n2.hold H
  clear H; obtain ⟨c0_0, c0_1, c0_2, c0_3, c0_4, c0_5⟩ := S.c6 0 rfl
  have H := S.hnew 34 [.bool bA, .slice pA lA KA, .slice qA jA JA]
  replace S := S.al 34 [.bool bA, .slice pA lA KA, .slice qA jA JA] (w1.heap.size)
  refine iv4 H n1 n2 nA dA ?_; clear n1 n2 nA dA; intro n1 n2 nA dA
  clear H; clear c0_0 c0_1 c0_2 c0_3 c0_4 c0_5; obtain ⟨c0_0, c0_1, c0_2, c0_3, c0_4, c0_5⟩ := S.c6 0 rfl; obtain ⟨c1_0, c1_1, c1_2⟩ := S.c3 1 rfl; go_wp2_with fail; clear c0_0 c0_1 c0_2 c0_3 c0_4 c0_5 c1_0 c1_1 c1_2
  refine (S.call (dratio_any ⟨b2, p2, l2, K2, m2, e2, rfl, h2, n2, d2⟩ HK.out.1)).mono ?_
  clear S
  rintro e w2 ⟨⟨_, rfl, bB, pB, lB, KB, qB, jB, JB, rfl, hB, nB, dB⟩, S, H⟩
  refine iv4 H n1 n2 nA dA ?_; clear n1 n2 nA dA; intro n1 n2 nA dA
  clear H; obtain ⟨c0_0, c0_1, c0_2, c0_3, c0_4, c0_5⟩ := S.c6 0 rfl; obtain ⟨c1_0, c1_1, c1_2⟩ := S.c3 1 rfl
  have H := S.hnew 34 [.bool bB, .slice pB lB KB, .slice qB jB JB]
  replace S := S.al 34 [.bool bB, .slice pB lB KB, .slice qB jB JB] (w2.heap.size)
  refine iv6 H n1 n2 nA dA nB dB ?_; clear n1 n2 nA dA nB dB; intro n1 n2 nA dA nB dB
  clear H; clear c0_0 c0_1 c0_2 c0_3 c0_4 c0_5 c1_0 c1_1 c1_2; obtain ⟨c1_0, c1_1, c1_2⟩ := S.c3 1 rfl; obtain ⟨c2_0, c2_1, c2_2⟩ := S.c3 2 rfl
  have H := S.hnew 36 [.int .i64 0, .int .i64 0]
  replace S := S.al 36 [.int .i64 0, .int .i64 0] (w2.heap.size + 1)
  refine iv6 H n1 n2 nA dA nB dB ?_; clear n1 n2 nA dA nB dB; intro n1 n2 nA dA nB dB
  clear H; go_wp2_with fail; clear c1_0 c1_1 c1_2 c2_0 c2_1 c2_2
  refine (S.call (or_two S 3 rfl)).mono ?_
  clear S
  rintro e w3 ⟨rfl, S, H⟩
  refine iv6 H n1 n2 nA dA nB dB ?_; clear n1 n2 nA dA nB dB; intro n1 n2 nA dA nB dB
  clear H; obtain ⟨c1_0, c1_1, c1_2⟩ := S.c3 1 rfl; obtain ⟨c2_0, c2_1, c2_2⟩ := S.c3 2 rfl
  go_upto_region 5 with fail
  clear c1_0 c1_1 c1_2 c2_0 c2_1 c2_2
  have HH := Hold.drew w3
  refine iv6 HH n1 n2 nA dA nB dB ?_; clear n1 n2 nA dA nB dB; intro n1 n2 nA dA nB dB
  replace S := S.drew
  refine wp_region_held_drew (S := fun W => W.cell? ⟨w1.heap.size, 0, none⟩ = some (.bool bA) ∧ W.cell? ⟨w1.heap.size, 1, none⟩ = some (.slice pA lA KA) ∧ W.cell? ⟨w1.heap.size, 2, none⟩ = some (.slice qA jA JA) ∧ W.cell? ⟨w2.heap.size, 0, none⟩ = some (.bool bB) ∧ W.cell? ⟨w2.heap.size, 1, none⟩ = some (.slice pB lB KB) ∧ W.cell? ⟨w2.heap.size, 2, none⟩ = some (.slice qB jB JB)) (by kernel_rfl) (con3 (S.c3 1 rfl) (S.c3 2 rfl)) (fun hS => ?_)
  generalize w3.drew = w4 at S n1 n2 nA dA nB dB HH hS ⊢
  refine tkl 0 hS ?_
  refine tkl 3 hS ?_
  refine rd 1 fun KK hKK => ?_
  go_simp; clear hS
  refine (S.call (rtext_lit ⟨bA, pA, lA, KA, qA, jA, JA, rfl, hA, nA, dA⟩ s HK.out.2.1 HK.out.2.2.2.1)).mono ?_
  clear S
  rintro e w5 ⟨rfl, S, H⟩
  refine iv6 H n1 n2 nA dA nB dB ?_; clear n1 n2 nA dA nB dB; intro n1 n2 nA dA nB dB; replace HH := HH.trans H; clear H
  go_wp2_with fail
  refine ho hKK (con3 (S.c3 1 rfl) (S.c3 2 rfl)) fun hS => ?_
  clear hKK KK
  refine tkl 2 hS ?_
  refine rd 4 fun KK hKK => ?_
  go_simp; clear hS
  refine (S.call (rtext_lit ⟨bB, pB, lB, KB, qB, jB, JB, rfl, hB, nB, dB⟩ t HK.out.2.2.1 HK.out.2.2.2.2)).mono ?_
  clear S
  rintro e w6 ⟨rfl, S, H⟩
  refine iv6 H n1 n2 nA dA nB dB ?_; clear n1 n2 nA dA nB dB; intro n1 n2 nA dA nB dB; replace HH := HH.trans H; clear H
  go_wp2_with fail
  refine ho hKK (con3 (S.c3 1 rfl) (S.c3 2 rfl)) fun hS => ?_
  clear hKK KK
  refine tkl 5 hS ?_
  refine rd 6 fun KK hKK => ?_
  go_simp
  refine ho hKK hS fun hS => ?_
  clear hKK KK
  refine wpAnyH_done (by kernel_rfl) ?_ _
  clear hS HH; obtain ⟨c1_0, c1_1, c1_2⟩ := S.c3 1 rfl; obtain ⟨c2_0, c2_1, c2_2⟩ := S.c3 2 rfl; go_wp2_with fail
  exact bodyPost_ret (v := .string (s ++ ⟨#[46, 46]⟩ ++ t)) (by simp [results, Tryz.f63, go_sem]) rfl (⟨rfl, S.below⟩)
set_option maxRecDepth 100000 in
set_option maxHeartbeats 4000000 in
theorem snear_of {va : Value} {a yl yh : Rat} {w : World} {L H : Nat} (n : Int) (hT : Tab w) (ha : IsRat w va a)
    (hl : ∀ (va : Value) (w : World), Tab w → IsRat w va a → Calls Tryz.prog 107 #[va, .int .i64 n, .bool false] w fun ev w' => (∃ u, ev = .returned (.tuple #[u, .int .i64 0]) ∧ IsD w' u yl L H) ∧ Below w.heap.size w w')
    (hh : ∀ (va : Value) (w : World), Tab w → IsRat w va a → Calls Tryz.prog 107 #[va, .int .i64 n, .bool true] w fun ev w' => (∃ u, ev = .returned (.tuple #[u, .int .i64 0]) ∧ IsD w' u yh L H) ∧ Below w.heap.size w w') :
    Calls Tryz.prog 55 #[va, .int .i64 n] w fun e w' => (∃ u, e = .returned (.tuple #[u, .int .i64 0]) ∧ IsSp w' u yl yh L H) ∧ Below w.heap.size w w' := by
  obtain ⟨bq, pq, lq, Kq, qq, jq, Jq, rfl, hbq, nq, dq1⟩ := ha
  have HK := Lib.hid hT
  have HL := Lib.hid hl
  have HU := Lib.hid hh
  clear hT hl hh
  have S := ((St.start w).alloc 34 [.bool bq, .slice pq lq Kq, .slice qq jq Jq] (w.heap.size)).alloc 29 [.bool false, .slice none 0 0, .int .i64 0, .bool false, .slice none 0 0, .int .i64 0] (w.heap.size + 1)
  try simp only [List.cons_append, List.nil_append] at S
  replace nq := nq.hold S.hold; replace dq1 := dq1.hold S.hold
  obtain ⟨c0_0, c0_1, c0_2⟩ := S.c3 0 rfl; obtain ⟨c1_0, c1_1, c1_2, c1_3, c1_4, c1_5⟩ := S.c6 1 rfl
  go_enter Tryz.func55, Tryz.ntmps55
  go_wp2_with fail; clear c0_0 c0_1 c0_2 c1_0 c1_1 c1_2 c1_3 c1_4 c1_5
  refine (S.call (HL.out _ _ (HK.out.below S.below) ⟨bq, pq, lq, Kq, qq, jq, Jq, rfl, hbq, nq, dq1⟩)).mono ?_
  clear S
  rintro e w1 ⟨⟨_, rfl, b3, p3, l3, K3, m3, e3, rfl, h3, n3, d3⟩, S, H⟩
  replace nq := nq.hold H; replace dq1 := dq1.hold H
  clear H; obtain ⟨c0_0, c0_1, c0_2⟩ := S.c3 0 rfl; obtain ⟨c1_0, c1_1, c1_2, c1_3, c1_4, c1_5⟩ := S.c6 1 rfl
  have H := S.hnew 27 [.bool b3, .slice p3 l3 K3, .int .i64 e3]
  replace S := S.al 27 [.bool b3, .slice p3 l3 K3, .int .i64 e3] (w1.heap.size)
  refine iv3 H nq dq1 n3 ?_; clear nq dq1 n3; intro nq dq1 n3
  clear H; clear c0_0 c0_1 c0_2 c1_0 c1_1 c1_2 c1_3 c1_4 c1_5; obtain ⟨c0_0, c0_1, c0_2⟩ := S.c3 0 rfl; obtain ⟨c1_0, c1_1, c1_2, c1_3, c1_4, c1_5⟩ := S.c6 1 rfl; obtain ⟨c2_0, c2_1, c2_2⟩ := S.c3 2 rfl; go_wp2_with fail; clear c0_0 c0_1 c0_2 c1_0 c1_1 c1_2 c1_3 c1_4 c1_5 c2_0 c2_1 c2_2
  refine (S.call (HU.out _ _ (HK.out.below S.below) ⟨bq, pq, lq, Kq, qq, jq, Jq, rfl, hbq, nq, dq1⟩)).mono ?_
  clear S
  rintro e w2 ⟨⟨_, rfl, b4, p4, l4, K4, m4, e4, rfl, h4, n4, d4⟩, S, H⟩
  refine iv3 H nq dq1 n3 ?_; clear nq dq1 n3; intro nq dq1 n3
  clear H; obtain ⟨c0_0, c0_1, c0_2⟩ := S.c3 0 rfl; obtain ⟨c1_0, c1_1, c1_2, c1_3, c1_4, c1_5⟩ := S.c6 1 rfl; obtain ⟨c2_0, c2_1, c2_2⟩ := S.c3 2 rfl
  have H := S.hnew 27 [.bool b4, .slice p4 l4 K4, .int .i64 e4]
  replace S := S.al 27 [.bool b4, .slice p4 l4 K4, .int .i64 e4] (w2.heap.size)
  refine iv4 H nq dq1 n3 n4 ?_; clear nq dq1 n3 n4; intro nq dq1 n3 n4
  clear H; clear c0_0 c0_1 c0_2 c1_0 c1_1 c1_2 c1_3 c1_4 c1_5 c2_0 c2_1 c2_2; obtain ⟨c0_0, c0_1, c0_2⟩ := S.c3 0 rfl; obtain ⟨c1_0, c1_1, c1_2, c1_3, c1_4, c1_5⟩ := S.c6 1 rfl; obtain ⟨c2_0, c2_1, c2_2⟩ := S.c3 2 rfl; obtain ⟨c3_0, c3_1, c3_2⟩ := S.c3 3 rfl
  go_upto_region 3 with fail
  clear c0_0 c0_1 c0_2 c1_0 c1_1 c1_2 c1_3 c1_4 c1_5 c2_0 c2_1 c2_2 c3_0 c3_1 c3_2
  generalize (w2.alloc (.cells #[.bool b4, .slice p4 l4 K4, .int .i64 e4] 27)) = w3 at S nq dq1 n3 n4 ⊢
  have HH := (Hold.drew w3).to32
  refine iw4 HH nq dq1 n3 n4 ?_; clear nq dq1 n3 n4; intro nq dq1 n3 n4
  replace S := S.drew
  refine wp_region_held_drew (S := fun W => W.cell? ⟨w1.heap.size, 0, none⟩ = some (.bool b3) ∧ W.cell? ⟨w1.heap.size, 1, none⟩ = some (.slice p3 l3 K3) ∧ W.cell? ⟨w1.heap.size, 2, none⟩ = some (.int .i64 e3) ∧ W.cell? ⟨w2.heap.size, 0, none⟩ = some (.bool b4) ∧ W.cell? ⟨w2.heap.size, 1, none⟩ = some (.slice p4 l4 K4) ∧ W.cell? ⟨w2.heap.size, 2, none⟩ = some (.int .i64 e4)) (by kernel_rfl) (con3 (S.c3 2 rfl) (S.c3 3 rfl)) (fun hS => ?_)
  generalize w3.drew = w4 at S nq dq1 n3 n4 HH hS ⊢
  refine tk 0 hS ?_
  refine tk 1 hS ?_
  refine tk 2 hS ?_
  refine tk 3 hS ?_
  refine rd 4 fun KK hKK => ?_
  go_simp; clear hS
  have H := S.hnew 36 [.int .i64 0, .int .i64 0]
  replace S := S.al 36 [.int .i64 0, .int .i64 0] (w4.heap.size)
  refine iv4 H nq dq1 n3 n4 ?_; clear nq dq1 n3 n4; intro nq dq1 n3 n4; replace HH := HH.trans H.to32; clear H
  refine ho hKK (con3 (S.c3 2 rfl) (S.c3 3 rfl)) fun hS => ?_
  generalize (w4.alloc (.cells #[.int .i64 0, .int .i64 0] 36)) = w5 at S nq dq1 n3 n4 HH hS ⊢
  clear hKK KK
  refine rd 5 fun KK hKK => ?_
  go_simp; clear hS
  refine (S.call (or_two S 4 rfl)).mono ?_
  clear S
  rintro e w6 ⟨rfl, S, H⟩
  refine iv4 H nq dq1 n3 n4 ?_; clear nq dq1 n3 n4; intro nq dq1 n3 n4; replace HH := HH.trans H.to32; clear H
  go_wp2_with fail
  refine ho hKK (con3 (S.c3 2 rfl) (S.c3 3 rfl)) fun hS => ?_
  clear hKK KK
  refine rd 6 fun KK hKK => ?_
  go_simp; clear hS
  refine (S.call (sbetween_any ⟨b3, p3, l3, K3, m3, e3, rfl, h3, n3, d3⟩ ⟨b4, p4, l4, K4, m4, e4, rfl, h4, n4, d4⟩)).mono ?_
  clear S
  rintro e w7 ⟨⟨_, rfl, b5, p5, l5, K5, m5, e5, b6, p6, l6, K6, m6, e6, rfl, h5, n5, d5, h6, n6, d6⟩, S, H⟩
  refine iv4 H nq dq1 n3 n4 ?_; clear nq dq1 n3 n4; intro nq dq1 n3 n4; replace HH := HH.trans H.to32; clear H
  go_wp2_with fail
  refine ho hKK (con3 (S.c3 2 rfl) (S.c3 3 rfl)) fun hS => ?_
  clear hKK KK
  refine tk 7 hS ?_
  refine tk 8 hS ?_
  refine rd 9 fun KK hKK => ?_
  obtain ⟨c0, c1, c2, c3, c4, c5⟩ := S.c6 1 rfl; obtain ⟨f0, f1, f2, f3, f4, f5⟩ := S.f6 1 rfl
  go_simp; clear hS c0 f0 c1 f1 c2 f2 c3 f3 c4 f4 c5 f5
  have HP := S.put6 1 (.bool b5) (.slice p5 l5 K5) (.int .i64 e5) (.bool b6) (.slice p6 l6 K6) (.int .i64 e6) rfl rfl; have H := HP.2; replace S := HP.1; clear HP
  refine iw6 H nq dq1 n3 n4 n5 n6 ?_; clear nq dq1 n3 n4 n5 n6; intro nq dq1 n3 n4 n5 n6; replace HH := HH.trans H; clear H
  refine ho hKK (con3 (S.c3 2 rfl) (S.c3 3 rfl)) fun hS => ?_
  generalize ((((((w7.setCell ⟨w.heap.size + 1, 0, none⟩ (.bool b5)).setCell ⟨w.heap.size + 1, 1, none⟩ (.slice p5 l5 K5)).setCell ⟨w.heap.size + 1, 2, none⟩ (.int .i64 e5)).setCell ⟨w.heap.size + 1, 3, none⟩ (.bool b6)).setCell ⟨w.heap.size + 1, 4, none⟩ (.slice p6 l6 K6)).setCell ⟨w.heap.size + 1, 5, none⟩ (.int .i64 e6)) = w8 at S nq dq1 n3 n4 n5 n6 HH hS ⊢
  clear hKK KK
  refine rd 10 fun KK hKK => ?_
  go_simp
  refine ho hKK hS fun hS => ?_
  clear hKK KK
  refine wpAnyH_done (by kernel_rfl) ?_ _
  clear hS HH; obtain ⟨c0_0, c0_1, c0_2⟩ := S.c3 0 rfl; obtain ⟨c1_0, c1_1, c1_2, c1_3, c1_4, c1_5⟩ := S.c6 1 rfl; obtain ⟨c2_0, c2_1, c2_2⟩ := S.c3 2 rfl; obtain ⟨c3_0, c3_1, c3_2⟩ := S.c3 3 rfl; go_wp2_with fail; obtain ⟨d1_0, d1_1, d1_2, d1_3, d1_4, d1_5⟩ := S.c6 1 rfl
  exact bodyPost_ret (v := .tuple #[.agg #[.bool b5, .slice p5 l5 K5, .int .i64 e5, .bool b6, .slice p6 l6 K6, .int .i64 e6], .int .i64 0]) (by simp [results, Tryz.f55, go_sem, d1_0, d1_1, d1_2, d1_3, d1_4, d1_5]) rfl (⟨⟨_, rfl, b5, p5, l5, K5, m5, e5, b6, p6, l6, K6, m6, e6, rfl, h5, n5, d5, h6, n6, d6⟩, S.below⟩)
noncomputable def tailN (d : Nat) : Nat := open Classical in if h : ∃ t, TailIs d t then h.choose else 0
theorem tailN_is {d : Nat} (h : d ≠ 0) : TailIs d (tailN d) := by
  have hex := tail_ex d h
  unfold tailN
  rw [dif_pos hex]
  exact hex.choose_spec
noncomputable def nearQ (n : Nat) (q : Rat) : Rat × Rat := if q = 0 then (0, 0) else (nearV q.num (q.den / 2 ^ tailN q.den) (tailN q.den) n false, nearV q.num (q.den / 2 ^ tailN q.den) (tailN q.den) n true)
theorem nearQ_calls {q : Rat} {k : Nat} (hak : RB q k) (n : Nat) (h2 : 2 ≤ n) (h4 : n ≤ 4096) (hk : 96 * k + n + 4 ≤ 16384) {va : Value} {w : World} (hT : Tab w) (ha : IsRat w va q) :
    Calls Tryz.prog 55 #[va, .int .i64 n] w fun e w' => (∃ u, e = .returned (.tuple #[u, .int .i64 0]) ∧ IsSp w' u (nearQ n q).1 (nearQ n q).2 (n + 64 * k) (32 * k + 3)) ∧ Below w.heap.size w w' := by
  unfold nearQ
  by_cases h0 : q = 0
  · rw [if_pos h0]
    subst h0
    have hz : ∀ (up : Bool) (va : Value) (w : World), Tab w → IsRat w va 0 → Calls Tryz.prog 107 #[va, .int .i64 n, .bool up] w fun ev w' => (∃ u, ev = .returned (.tuple #[u, .int .i64 0]) ∧ IsD w' u 0 (n + 64 * k) (32 * k + 3)) ∧ Below w.heap.size w w' := fun up va w _ ha =>
      (dnear_zero ha n h2 h4 up).mono fun e w' h => ⟨⟨_, h.1, false, none, 0, 0, 0, 0, rfl, rfl, IsNat.zero _, DyF.zero _ _⟩, h.2⟩
    exact snear_of (n : Int) hT ha (hz false) (hz true)
  · rw [if_neg h0]
    exact snear_of (n : Int) hT ha (fun _ _ hT ha => dnear_any hT ha hak n h2 h4 false h0 _ (tailN_is q.den_nz) _ rfl hk _ rfl) (fun _ _ hT ha => dnear_any hT ha hak n h2 h4 true h0 _ (tailN_is q.den_nz) _ rfl hk _ rfl)
set_option maxRecDepth 100000 in
set_option maxHeartbeats 4000000 in
theorem vnear1_any {va : Value} {x : Rat} {w : World} {g n : Nat} {L H : Nat} {y : Rat × Rat} (hT : Tab w) (ha : IsRat w va x) (hg : g < w.heap.size) (e0 : w.cell? ⟨g, 0, none⟩ = some (.int .i64 n))
    (hc : ∀ (va : Value) (w : World), Tab w → IsRat w va x → Calls Tryz.prog 55 #[va, .int .i64 n] w fun e w' => (∃ u, e = .returned (.tuple #[u, .int .i64 0]) ∧ IsSp w' u y.1 y.2 L H) ∧ Below w.heap.size w w') :
    Calls Tryz.prog 96 #[va, .pointer (some ⟨g, 0, none⟩)] w fun e w' => (∃ r, e = .returned (.tuple #[r, .int .i64 0]) ∧ IsSp w' r y.1 y.2 L H) ∧ Below w.heap.size w w' := by
  obtain ⟨b1, p1, l1, K1, q1, j1, J1, rfl, h1, n1, d1⟩ := ha
  have HC := Lib.hid (And.intro hT hc)
  clear hT hc
  have S := ((St.start w).alloc 34 [.bool b1, .slice p1 l1 K1, .slice q1 j1 J1] (w.heap.size)).alloc 29 [.bool false, .slice none 0 0, .int .i64 0, .bool false, .slice none 0 0, .int .i64 0] (w.heap.size + 1)
  try simp only [List.cons_append, List.nil_append] at S
  replace n1 := n1.hold S.hold; replace d1 := d1.hold S.hold
  obtain ⟨c0_0, c0_1, c0_2⟩ := S.c3 0 rfl; obtain ⟨c1_0, c1_1, c1_2, c1_3, c1_4, c1_5⟩ := S.c6 1 rfl
  go_enter Tryz.func96, Tryz.ntmps96
  replace e0 := (S.below.cell (p := ⟨g, 0, none⟩) hg).trans e0
  go_wp2_with fail; clear c0_0 c0_1 c0_2 c1_0 c1_1 c1_2 c1_3 c1_4 c1_5
  refine (S.call (HC.out.2 _ _ (HC.out.1.below S.below) ⟨b1, p1, l1, K1, q1, j1, J1, rfl, h1, n1, d1⟩)).mono ?_
  clear S
  rintro e w1 ⟨⟨_, rfl, b2, p2, l2, K2, m2, e2, b3, p3, l3, K3, m3, e3, rfl, h2, n2, d2, h3, n3, d3⟩, S, H⟩
  replace n1 := n1.hold H; replace d1 := d1.hold H
  clear H; obtain ⟨c0_0, c0_1, c0_2⟩ := S.c3 0 rfl; obtain ⟨c1_0, c1_1, c1_2, c1_3, c1_4, c1_5⟩ := S.c6 1 rfl; clear e0
  obtain ⟨f1_0, f1_1, f1_2, f1_3, f1_4, f1_5⟩ := S.f6 1 rfl
  have HP := S.put6 1 (.bool b2) (.slice p2 l2 K2) (.int .i64 e2) (.bool b3) (.slice p3 l3 K3) (.int .i64 e3) rfl rfl; have H := HP.2; replace S := HP.1; clear HP
  refine iw4 H n1 d1 n2 n3 ?_; clear n1 d1 n2 n3; intro n1 d1 n2 n3
  clear H; go_wp2_with fail; clear c0_0 c0_1 c0_2 c1_0 c1_1 c1_2 c1_3 c1_4 c1_5 f1_0 f1_1 f1_2 f1_3 f1_4 f1_5; go_wp2_with fail; obtain ⟨d1_0, d1_1, d1_2, d1_3, d1_4, d1_5⟩ := S.c6 1 rfl
  exact bodyPost_ret (v := .tuple #[.agg #[.bool b2, .slice p2 l2 K2, .int .i64 e2, .bool b3, .slice p3 l3 K3, .int .i64 e3], .int .i64 0]) (by simp [results, Tryz.f96, go_sem, d1_0, d1_1, d1_2, d1_3, d1_4, d1_5]) rfl (⟨⟨_, rfl, b2, p2, l2, K2, m2, e2, b3, p3, l3, K3, m3, e3, rfl, h2, n2, d2, h3, n3, d3⟩, S.below⟩)
set_option maxRecDepth 100000 in
set_option maxHeartbeats 4000000 in
theorem vnear_any {va : Value} {xs : List Rat} {w : World} (hT : Tab w) (ha : Rats w va xs) (m : Nat) (hla : xs.length = m) (hm : m ≤ 1000000) {k : Nat} (hx : ∀ q, q ∈ xs → RB q k) (n : Nat) (h2 : 2 ≤ n) (h4 : n ≤ 4096) (hk : 96 * k + n + 4 ≤ 16384) :
    Calls Tryz.prog 43 #[va, .int .i64 n] w fun e w' => (∃ v, e = .returned (.tuple #[v, .int .i64 0]) ∧ FreshS w w' v (xs.map (nearQ n)) (n + 64 * k) (32 * k + 3)) ∧ Below w.heap.size w w' := by
  have HV := Lib.hid (fun (W : World) (hB : Below w.heap.size w W) (g : Nat) (hg : g < W.heap.size) (e0 : W.cell? ⟨g, 0, none⟩ = some (.int .i64 n)) => vplRS_any (Lr := n + 64 * k) (Hr := 32 * k + 3) (ha.to hB) m hla hm 96 (.pointer (some ⟨g, 0, none⟩)) (nearQ n) (fun _ _ => by kernel_rfl)
    (fun W2 u k' x hB2 hx' hu => vnear1_any ((hT.below hB).below hB2) hu (Nat.lt_of_lt_of_le hg hB2.size) ((hB2.cell (p := ⟨g, 0, none⟩) hg).trans e0) (fun va w hT ha => nearQ_calls (hx x (List.mem_of_getElem? hx')) n h2 h4 hk hT ha)))
  clear ha hla hm hx hk hT
  have S := (St.start w).alloc 3 [.int .i64 n] (w.heap.size)
  try simp only [List.nil_append] at S
  have c0_0 := S.c 0 0 rfl rfl
  go_enter Tryz.func43, Tryz.ntmps43
  go_wp2_with fail; clear c0_0
  refine (S.call (HV.out _ S.below _ (S.lt 0 rfl) (S.c 0 0 rfl rfl))).mono ?_
  clear S
  rintro e w1 ⟨⟨v, rfl, hv⟩, S, H⟩
  clear H; have c0_0 := S.c 0 0 rfl rfl; go_wp2_with fail
  exact bodyPost_ret (v := .tuple #[v, .int .i64 0]) (by simp [results, Tryz.f43, go_sem]) rfl (⟨⟨_, rfl, hv.from (by simp)⟩, S.below⟩)
theorem shasr_yes {va vb : Value} {x y z : Rat} {L H k1 k2 : Nat} {w : World} (ha : IsSp w va x y L H) (hb : IsRat w vb z) (hLH : H + L + 1 ≤ 16384) (hx : H + L + 1 ≤ 32 * k1) (hy : RB z k2) (hk : k1 + k2 ≤ 511) (h1 : x ≤ z) (h2 : z ≤ y) :
    Calls Tryz.prog 47 #[va, vb] w fun e w' => e = .returned (.tuple #[.bool true, .int .i64 0]) ∧ Below w.heap.size w w' := by
  have c1 : cmpR x z = -1 ∨ cmpR x z = 0 := by
    rcases rat_three x z with h | h | h
    · exact .inl (cmpR_lt h)
    · exact .inr (by rw [h]; exact cmpR_eq z)
    · exact absurd h (Rat.not_lt.2 h1)
  have c2 : cmpR y z = 0 ∨ cmpR y z = 1 := by
    rcases rat_three y z with h | h | h
    · exact absurd h (Rat.not_lt.2 h2)
    · exact .inl (by rw [h]; exact cmpR_eq z)
    · exact .inr (cmpR_gt h)
  rcases c1 with c1 | c1 <;> rcases c2 with c2 | c2
  · exact shasr_lt_eq ha hb hLH hx hy hk c1 c2
  · exact shasr_lt_gt ha hb hLH hx hy hk c1 c2
  · exact shasr_eq_eq ha hb hLH hx hy hk c1 c2
  · exact shasr_eq_gt ha hb hLH hx hy hk c1 c2
theorem rq_lit {x y : Rat} {n : Nat} {up : Bool} (m e : Int) (hc : DyC m e) (hx : dq m e = x) (hr : rnd m e n up = y) : rq x n up = y := by rw [← rq_is n up hc hx]; exact hr
set_option maxRecDepth 100000 in
set_option maxHeartbeats 4000000 in
theorem bindex_any (g n : Nat) (bs : List Bool) (w : World) (hn : bs.length = n) (h9 : n ≤ 1000000) (hg : w.heap[g]? = some (.cells (bs.map Value.bool).toArray 4 (0, 0))) (hall : ∀ b, b ∈ bs → b = true) :
    Calls Tryz.prog 137 #[.slice (some ⟨g, 0, none⟩) n n, .bool false] w fun e w' => e = .returned (.int .i64 (-1)) ∧ Below w.heap.size w w' := by
  have HI := Lib.hid (And.intro hn (And.intro hg hall))
  clear hn hg hall
  have S := St.start w
  go_enter Tryz.func137, Tryz.ntmps137
  go_wp2_with fail
  go_loopw [8] (fun si wr => ∃ k : Nat, k ≤ n ∧ si = .int .i64 k ∧ St w wr []) (fun si _ => n - (intOf si).toNat)
  case atStart => exact ⟨0, by omega, rfl, S⟩
  case round =>
    clear S
    obtain ⟨k, hk, rfl, S⟩ := hrel
    by_cases hlt : k < n
    · have hq : bs[k]? = some (bs[k]'(by have := HI.out.1; omega)) := List.getElem?_eq_getElem _
      rw [HI.out.2.2 _ (List.getElem_mem _)] at hq
      have a0 : wr.cell? ⟨g, k, none⟩ = some (.bool true) := by
        refine (S.below.cell (p := ⟨g, k, none⟩) (lt_of_heap HI.out.2.1)).trans ?_
        rw [cell_of_row w g k _ 4 (0, 0) HI.out.2.1]
        simp [hq]
      have hki : (k : Int) < ((n : Nat) : Int) := by omega
      have HQ := Lib.hid hlt
      clear hq hlt hk; go_wp2_with fail
      go_roundw
      case rel => exact ⟨k + 1, HQ.out, by go_num, S⟩
      case measure => have := HQ.out; simp [intOf]; omega
    · have hki : ¬ (k : Int) < ((n : Nat) : Int) := by omega
      clear hlt; go_wp2_with fail
      exact bodyPost_ret (v := .int .i64 (-1)) (by simp [results, Tryz.f137, go_sem]) rfl (⟨rfl, S.below⟩)
set_option maxRecDepth 100000 in
set_option maxHeartbeats 4000000 in
theorem bcontains_any (g n : Nat) (bs : List Bool) (w : World) (hn : bs.length = n) (h9 : n ≤ 1000000) (hg : w.heap[g]? = some (.cells (bs.map Value.bool).toArray 4 (0, 0))) (hall : ∀ b, b ∈ bs → b = true) :
    Calls Tryz.prog 101 #[.slice (some ⟨g, 0, none⟩) n n, .bool false] w fun e w' => e = .returned (.bool false) ∧ Below w.heap.size w w' := by
  have HV := Lib.hid (bindex_any g n bs w hn h9 hg hall)
  clear hn h9 hg hall
  have S := St.start w
  go_enter Tryz.func101, Tryz.ntmps101
  go_wp2_with fail
  refine (S.call (HV.out)).mono ?_
  clear S
  rintro e w1 ⟨rfl, S, H⟩
  clear H; go_wp2_with fail
  exact bodyPost_ret (v := .bool false) (by simp [results, Tryz.f101, go_sem]) rfl (⟨rfl, S.below⟩)
set_option maxRecDepth 100000 in
set_option maxHeartbeats 4000000 in
theorem vholds_yes {va vb : Value} {xs : List (Rat × Rat)} {ys : List Rat} {w : World} {L H k1 k2 : Nat} (ha : Spans w va xs L H) (hb : Rats w vb ys) (m : Nat) (hla : xs.length = m) (hlb : ys.length = m) (hm : m ≤ 1000000) (hLH : H + L + 1 ≤ 16384) (hx : H + L + 1 ≤ 32 * k1) (hk : k1 + k2 ≤ 511) (hy : ∀ y, y ∈ ys → RB y k2)
    (hin : ∀ (j : Nat) x y, xs[j]? = some x → ys[j]? = some y → x.1 ≤ y ∧ y ≤ x.2) :
    Calls Tryz.prog 46 #[va, vb] w fun e w' => e = .returned (.tuple #[.bool true, .int .i64 0]) ∧ Below w.heap.size w w' := by
  have HV := Lib.hid (vpaSRB_any ha hb m hla hlb hm 47 (fun _ _ => true) (fun _ _ _ => by kernel_rfl) (fun W u v j x y _ h1 h2 hu hv => shasr_yes hu hv hLH hx (hy y (List.mem_of_getElem? h2)) hk (hin j x y h1 h2).1 (hin j x y h1 h2).2))
  have hz : (List.zipWith (fun (_ : Rat × Rat) (_ : Rat) => true) xs ys).length = m := by simp [hla, hlb]
  have ht : ∀ b, b ∈ List.zipWith (fun (_ : Rat × Rat) (_ : Rat) => true) xs ys → b = true := fun b hb => by
    obtain ⟨i, hi⟩ := List.getElem?_of_mem hb
    rw [List.getElem?_zipWith] at hi
    split at hi <;> simp_all
  have HZ := Lib.hid (And.intro hz (And.intro ht hm))
  clear ha hb hla hlb hm hLH hx hk hy hin hz ht
  have S := St.start w
  go_enter Tryz.func46, Tryz.ntmps46
  go_wp2_with fail
  refine (S.call (HV.out)).mono ?_
  clear S
  rintro e w1 ⟨⟨v, rfl, g, vs, rfl, hg, hh, rfl⟩, S, H⟩
  clear H
  rw [HZ.out.1]
  have HH := Lib.hid hh
  clear hh hg; go_wp2_with fail
  refine (S.call (bcontains_any g m _ _ HZ.out.1 HZ.out.2.2 HH.out HZ.out.2.1)).mono ?_
  clear S
  rintro e w2 ⟨rfl, S, H⟩
  clear H; go_wp2_with fail
  exact bodyPost_ret (v := .tuple #[.bool true, .int .i64 0]) (by simp [results, Tryz.f46, go_sem]) rfl (⟨rfl, S.below⟩)
set_option maxRecDepth 100000 in
set_option maxHeartbeats 4000000 in
theorem vpair_bad (p q : Option Addr) (m c n d : Nat) (f : Value) (w : World) (h : m ≠ n) :
    Calls Tryz.prog 86 #[.slice p m c, .slice q n d, f] w fun e w' => e = .returned (.tuple #[.slice none 0 0, .int .i64 20]) ∧ Below w.heap.size w w' := by
  have h1 : (((m : Nat) : Int) == ((n : Nat) : Int)) = false := by simp; omega
  have h2 : (((m : Nat) : Int) != ((n : Nat) : Int)) = true := by simp; omega
  have S := St.start w
  go_enter Tryz.func86, Tryz.ntmps86
  go_wp2_with fail
  exact bodyPost_ret (v := .tuple #[.slice none 0 0, .int .i64 20]) (by simp [results, Tryz.f86, go_sem]) rfl (⟨rfl, S.below⟩)
set_option maxRecDepth 100000 in
set_option maxHeartbeats 4000000 in
theorem vadd_bad (p q : Option Addr) (m c n d : Nat) (w : World) (h : m ≠ n) :
    Calls Tryz.prog 34 #[.slice p m c, .slice q n d] w fun e w' => e = .returned (.tuple #[.slice none 0 0, .int .i64 20]) ∧ Below w.heap.size w w' := by
  have S := St.start w
  go_enter Tryz.func34, Tryz.ntmps34
  go_wp2_with fail
  refine (S.call (vpair_bad p q m c n d _ _ h)).mono ?_
  clear S
  rintro e w1 ⟨rfl, S, H⟩
  clear H; go_wp2_with fail
  exact bodyPost_ret (v := .tuple #[.slice none 0 0, .int .i64 20]) (by simp [results, Tryz.f34, go_sem]) rfl (⟨rfl, S.below⟩)
set_option maxRecDepth 100000 in
set_option maxHeartbeats 4000000 in
theorem vcheck_shape (p : Option Addr) (m c : Nat) (n : Int) (w : World) (h : n < 0 ∨ 16 < n ∨ (m : Int) ≠ n) :
    Calls Tryz.prog 53 #[.slice p m c, .int .i64 n] w fun e w' => e = .returned (.int .i64 20) ∧ Below w.heap.size w w' := by
  by_cases h1 : n < 0
  ·
    have S := St.start w
    go_enter Tryz.func53, Tryz.ntmps53
    go_wp2_with fail
    exact bodyPost_ret (v := .int .i64 20) (by simp [results, Tryz.f53, go_sem]) rfl (⟨rfl, S.below⟩)
  by_cases h2 : 16 < n
  ·
    have S := St.start w
    go_enter Tryz.func53, Tryz.ntmps53
    go_wp2_with fail
    exact bodyPost_ret (v := .int .i64 20) (by simp [results, Tryz.f53, go_sem]) rfl (⟨rfl, S.below⟩)
  have h3 : (((m : Nat) : Int) == n) = false := by simp; omega
  have h4 : (((m : Nat) : Int) != n) = true := by simp; omega
  have S := St.start w
  go_enter Tryz.func53, Tryz.ntmps53
  go_wp2_with fail
  exact bodyPost_ret (v := .int .i64 20) (by simp [results, Tryz.f53, go_sem]) rfl (⟨rfl, S.below⟩)
def qv0 : Rat := mkRat (0) 1
def qv1 : Rat := mkRat (1) 1
def qvh : Rat := mkRat (1) 2
def qv2 : Rat := mkRat (2) 1
def qw4 : Rat := mkRat (-4) 1
def qv3 : Rat := mkRat (3) 1
def qw7 : Rat := mkRat (-7) 2
def qw1 : Rat := mkRat (-1) 1
def qv9 : Rat := mkRat (9) 2
def qv4 : Rat := mkRat (4) 1
theorem St.ins {w W : World} {L : List (Nat × TypeId × List Value)} (S : St w W L) : w.heap.size ≤ W.heap.size ∧ ∀ x, x ∈ L → x.1 < W.heap.size := ⟨S.below.size, S.locs.inside⟩
theorem St.adoptF {w W w' : World} {L : List (Nat × TypeId × List Value)} (S : St w w' L) (hi : w.heap.size ≤ W.heap.size ∧ ∀ x, x ∈ L → x.1 < W.heap.size) {g : Nat} {t : TypeId} {vs : List Value} (hg : W.heap.size ≤ g) (hh : w'.heap[g]? = some (.cells vs.toArray t (0, 0))) : St w w' (L ++ [(g, t, vs)]) :=
  ⟨S.below, S.locs.adopt (Nat.le_trans hi.1 hg) (fun x hx => Nat.lt_of_lt_of_le (hi.2 x hx) hg) hh⟩
theorem St.spans {w W : World} {L : List (Nat × TypeId × List Value)} (S : St w W L) (i : Nat) {g : Nat} {t : TypeId} {vs : List Value} (hi : L[i]? = some (g, t, vs)) {qs : List (Rat × Rat)} {A B : Nat} (hr : SL W A B vs qs) {n c : Nat} (hn : n = qs.length) (hc : n ≤ c) : Spans W (.slice (some ⟨g, 0, none⟩) n c) qs A B := by
  subst hn
  exact ⟨g, 0, c, vs, rfl, S.lt i hi, hc, .of_heap (S.locs.get i hi).2, hr⟩
theorem nearQ_lit {q : Rat} {n t d : Nat} {yl yh : Rat} (h0 : q ≠ 0) (ht : TailIs q.den t) (hd : q.den / 2 ^ t = d) (hl : nearV q.num d t n false = yl) (hh : nearV q.num d t n true = yh) : nearQ n q = (yl, yh) := by
  unfold nearQ
  rw [if_neg h0, tail_uniq q.den_nz (tailN_is q.den_nz) ht, hd, hl, hh]
theorem near_qv1 : nearQ 10 qv1 = (qv1, qv1) := nearQ_lit (t := 0) (d := 1) (by decide +kernel) (by rw [show qv1.den = 1 by decide +kernel]; exact .inr ⟨0, rfl⟩) (by decide +kernel) (by decide +kernel) (by decide +kernel)
theorem near_qvh : nearQ 10 qvh = (qvh, qvh) := nearQ_lit (t := 1) (d := 1) (by decide +kernel) (by rw [show qvh.den = 2 by decide +kernel]; exact .inr ⟨0, rfl⟩) (by decide +kernel) (by decide +kernel) (by decide +kernel)
theorem near_qv2 : nearQ 10 qv2 = (qv2, qv2) := nearQ_lit (t := 0) (d := 1) (by decide +kernel) (by rw [show qv2.den = 1 by decide +kernel]; exact .inr ⟨0, rfl⟩) (by decide +kernel) (by decide +kernel) (by decide +kernel)
theorem near_qw4 : nearQ 10 qw4 = (qw4, qw4) := nearQ_lit (t := 0) (d := 1) (by decide +kernel) (by rw [show qw4.den = 1 by decide +kernel]; exact .inr ⟨0, rfl⟩) (by decide +kernel) (by decide +kernel) (by decide +kernel)
def qw2 : Rat := mkRat (-2) 1
theorem spM_qv1_qv2 : spM 10 (qv1, qv1) (qv2, qv2) = (qv2, qv2) := by
  show (rq (loM qv1 qv1 qv2 qv2) 10 false, rq (hiM qv1 qv1 qv2 qv2) 10 true) = _
  rw [rq_lit (x := loM qv1 qv1 qv2 qv2) (n := 10) (up := false) (y := qv2) (1) (1) (.inr rfl) (by decide +kernel) (by decide +kernel), rq_lit (x := hiM qv1 qv1 qv2 qv2) (n := 10) (up := true) (y := qv2) (1) (1) (.inr rfl) (by decide +kernel) (by decide +kernel)]
theorem spM_qvh_qw4 : spM 10 (qvh, qvh) (qw4, qw4) = (qw2, qw2) := by
  show (rq (loM qvh qvh qw4 qw4) 10 false, rq (hiM qvh qvh qw4 qw4) 10 true) = _
  rw [rq_lit (x := loM qvh qvh qw4 qw4) (n := 10) (up := false) (y := qw2) (-1) (1) (.inr rfl) (by decide +kernel) (by decide +kernel), rq_lit (x := hiM qvh qvh qw4 qw4) (n := 10) (up := true) (y := qw2) (-1) (1) (.inr rfl) (by decide +kernel) (by decide +kernel)]
theorem spM_qvh_qv2 : spM 10 (qvh, qvh) (qv2, qv2) = (qv1, qv1) := by
  show (rq (loM qvh qvh qv2 qv2) 10 false, rq (hiM qvh qvh qv2 qv2) 10 true) = _
  rw [rq_lit (x := loM qvh qvh qv2 qv2) (n := 10) (up := false) (y := qv1) (1) (0) (.inr rfl) (by decide +kernel) (by decide +kernel), rq_lit (x := hiM qvh qvh qv2 qv2) (n := 10) (up := true) (y := qv1) (1) (0) (.inr rfl) (by decide +kernel) (by decide +kernel)]
theorem spA_qv2_qw2 : spA 10 (qv2, qv2) (qw2, qw2) = (qv0, qv0) := by
  show (rq (qv2 + qw2) 10 false, rq (qv2 + qw2) 10 true) = _
  rw [rq_lit (x := qv2 + qw2) (n := 10) (up := false) (y := qv0) (0) (0) (.inl ⟨rfl, rfl⟩) (by decide +kernel) (by decide +kernel), rq_lit (x := qv2 + qw2) (n := 10) (up := true) (y := qv0) (0) (0) (.inl ⟨rfl, rfl⟩) (by decide +kernel) (by decide +kernel)]
theorem spA_qv1_qv2 : spA 10 (qv1, qv1) (qv2, qv2) = (qv3, qv3) := by
  show (rq (qv1 + qv2) 10 false, rq (qv1 + qv2) 10 true) = _
  rw [rq_lit (x := qv1 + qv2) (n := 10) (up := false) (y := qv3) (3) (0) (.inr rfl) (by decide +kernel) (by decide +kernel), rq_lit (x := qv1 + qv2) (n := 10) (up := true) (y := qv3) (3) (0) (.inr rfl) (by decide +kernel) (by decide +kernel)]
theorem spA_qvh_qw4 : spA 10 (qvh, qvh) (qw4, qw4) = (qw7, qw7) := by
  show (rq (qvh + qw4) 10 false, rq (qvh + qw4) 10 true) = _
  rw [rq_lit (x := qvh + qw4) (n := 10) (up := false) (y := qw7) (-7) (-1) (.inr rfl) (by decide +kernel) (by decide +kernel), rq_lit (x := qvh + qw4) (n := 10) (up := true) (y := qw7) (-7) (-1) (.inr rfl) (by decide +kernel) (by decide +kernel)]
theorem pt_near1 : [qv1, qvh].map (nearQ 10) = [(qv1, qv1), (qvh, qvh)] := by simp only [List.map_cons, List.map_nil, near_qv1, near_qvh]
theorem pt_near2 : [qv2, qw4].map (nearQ 10) = [(qv2, qv2), (qw4, qw4)] := by simp only [List.map_cons, List.map_nil, near_qv2, near_qw4]
theorem pt_inner : innerL 10 [(qv1, qv1), (qvh, qvh)] [(qv2, qv2), (qw4, qw4)] = (qv0, qv0) := by
  show foldF 10 [spM 10 (qv1, qv1) (qv2, qv2), spM 10 (qvh, qvh) (qw4, qw4)] = _
  rw [spM_qv1_qv2, spM_qvh_qw4]
  show spA 10 (qv2, qv2) (qw2, qw2) = _
  exact spA_qv2_qw2
theorem pt_plus : List.zipWith (spA 10) [(qv1, qv1), (qvh, qvh)] [(qv2, qv2), (qw4, qw4)] = [(qv3, qv3), (qw7, qw7)] := by
  show [spA 10 (qv1, qv1) (qv2, qv2), spA 10 (qvh, qvh) (qw4, qw4)] = _
  rw [spA_qv1_qv2, spA_qvh_qw4]
theorem pt_times : [(qv1, qv1), (qvh, qvh)].map (fun x => spM 10 x (qv2, qv2)) = [(qv2, qv2), (qv1, qv1)] := by
  show [spM 10 (qv1, qv1) (qv2, qv2), spM 10 (qvh, qvh) (qv2, qv2)] = _
  rw [spM_qv1_qv2, spM_qvh_qv2]
theorem pt_add : List.zipWith (· + ·) [qv1, qvh] [qv2, qw4] = [qv3, qw7] := by decide +kernel
theorem pt_sub : List.zipWith (· - ·) [qv1, qvh] [qv2, qw4] = [qw1, qv9] := by decide +kernel
theorem pt_scale : [qv1, qvh].map (· * qv2) = [qv2, qv1] := by decide +kernel
theorem pt_dot : dotL [qv1, qvh] [qv2, qw4] = qv0 := by decide +kernel
theorem pt_norm : normS [(qv2, qv2), (qw4, qw4)] = qv4 := by decide +kernel
theorem pt_unit : unitL 3 1 = [qv0, qv1, qv0] := by decide +kernel
theorem pt_rb (q : Rat) (h : q ∈ [qv0, qv1, qvh, qv2, qw4, qv3, qw7, qw1, qv9, qv4]) : RB q 1 ∧ q.num.natAbs < maxN ∧ q.den < maxN := by
  have h1 : RB q 1 := by
    have hall : ∀ x, x ∈ [qv0, qv1, qvh, qv2, qw4, qv3, qw7, qw1, qv9, qv4] → x.num.natAbs < 4294967296 ∧ x.den < 4294967296 := by decide +kernel
    exact rb_one (hall q h).1 (hall q h).2
  exact ⟨h1, rb_max h1 (by decide)⟩
theorem pt_mem12 : ∀ q, q ∈ [qv1, qvh] → q ∈ [qv0, qv1, qvh, qv2, qw4, qv3, qw7, qw1, qv9, qv4] := by decide +kernel
theorem pt_mem24 : ∀ q, q ∈ [qv2, qw4] → q ∈ [qv0, qv1, qvh, qv2, qw4, qv3, qw7, qw1, qv9, qv4] := by decide +kernel
theorem txt_w7 : IsRText (bs ⟨#[45, 55, 47, 50]⟩) qw7 := rtext_frac (-7) 2 qw7 (by decide +kernel) (by decide +kernel) [45, 55] [50] _ rfl (by decide) (itext_neg (by decide) rfl (show IsText [55] _ from ⟨by decide, by decide, by decide, by decide⟩)) ⟨by decide, by decide, by decide, by decide⟩
theorem txt_v9 : IsRText (bs ⟨#[57, 47, 50]⟩) qv9 := rtext_frac 9 2 qv9 (by decide +kernel) (by decide +kernel) [57] [50] _ rfl (by decide) (itext_pos (by decide) ⟨by decide, by decide, by decide, by decide⟩) ⟨by decide, by decide, by decide, by decide⟩
theorem txt_v0 : IsRText (bs ⟨#[48]⟩) qv0 := .inl ⟨by decide +kernel, by rw [show qv0.num = (0) by decide +kernel]; exact itext_pos (by decide) ⟨by decide, by decide, by decide, by decide⟩⟩
theorem txt_v1 : IsRText (bs ⟨#[49]⟩) qv1 := .inl ⟨by decide +kernel, by rw [show qv1.num = (1) by decide +kernel]; exact itext_pos (by decide) ⟨by decide, by decide, by decide, by decide⟩⟩
theorem txt_v3 : IsRText (bs ⟨#[51]⟩) qv3 := .inl ⟨by decide +kernel, by rw [show qv3.num = (3) by decide +kernel]; exact itext_pos (by decide) ⟨by decide, by decide, by decide, by decide⟩⟩
theorem pt_tmem : ∀ y, y ∈ [qv2, qv1] → RB y 1 := fun q hq => (pt_rb q ((by decide +kernel : ∀ q, q ∈ [qv2, qv1] → q ∈ [qv0, qv1, qvh, qv2, qw4, qv3, qw7, qw1, qv9, qv4]) q hq)).1
theorem pt_in : ∀ (j : Nat) (x : Rat × Rat) (y : Rat), [(qv2, qv2), (qv1, qv1)][j]? = some x → [qv2, qv1][j]? = some y → x.1 ≤ y ∧ y ≤ x.2 := fun j x y h1 h2 => by
  match j, h1, h2 with
  | 0, h1, h2 => cases h1; cases h2; exact ⟨Rat.le_refl, Rat.le_refl⟩
  | 1, h1, h2 => cases h1; cases h2; exact ⟨Rat.le_refl, Rat.le_refl⟩
theorem stext_v {va : Value} {x y : Rat} {w : World} {L H : Nat} (ha : IsSp w va x y L H) (hLH : H + L + 1 ≤ 16384) (s t : ByteArray) (hx : x.num.natAbs < maxN ∧ x.den < maxN) (hy : y.num.natAbs < maxN ∧ y.den < maxN) (hs : IsRText (bs s) x) (ht : IsRText (bs t) y) (ls : s.size ≤ 1000) (lt : t.size ≤ 1000) (u : ByteArray) (hu : s ++ ⟨#[46, 46]⟩ ++ t = u) :
    Calls Tryz.prog 63 #[va] w fun e w' => e = .returned (.string u) ∧ Below w.heap.size w w' := by subst hu; exact stext_lit ha hLH s t hx hy hs ht ls lt
set_option maxRecDepth 100000 in
set_option maxHeartbeats 16000000 in
theorem points_any (w : World) (hT : Tab w) : Calls Tryz.prog 32 #[] w fun e w' => e = .returned (.bool true) ∧ Below w.heap.size w w' := by
  have HT := Lib.hid hT
  clear hT
  have S := St.start w
  go_enter Tryz.func32, Tryz.ntmps32
  go_wp2_with fail
  refine (S.call (rof_any (1) 1 _ (by decide) (by decide) (by decide) (by decide) (by decide) qv1 (by decide +kernel))).mono ?_
  clear S
  rintro e w1 ⟨⟨_, rfl, b1, p1, l1, K1, q1, j1, J1, rfl, h1, n1, d1⟩, S, H⟩
  clear H; go_wp2_with fail
  refine (S.call (rof_any (1) 2 _ (by decide) (by decide) (by decide) (by decide) (by decide) qvh (by decide +kernel))).mono ?_
  clear S
  rintro e w2 ⟨⟨_, rfl, b2, p2, l2, K2, q2, j2, J2, rfl, h2, n2, d2⟩, S, H⟩
  replace n1 := n1.hold H; replace d1 := d1.hold H
  clear H
  have H := S.hnew 34 [.bool b1, .slice p1 l1 K1, .slice q1 j1 J1, .bool b2, .slice p2 l2 K2, .slice q2 j2 J2]
  replace S := S.al 34 [.bool b1, .slice p1 l1 K1, .slice q1 j1 J1, .bool b2, .slice p2 l2 K2, .slice q2 j2 J2] (w2.heap.size)
  refine iv4 H n1 d1 n2 d2 ?_; clear n1 d1 n2 d2; intro n1 d1 n2 d2
  clear H; go_wp2_with fail
  refine (S.call (rof_any (2) 1 _ (by decide) (by decide) (by decide) (by decide) (by decide) qv2 (by decide +kernel))).mono ?_
  clear S
  rintro e w3 ⟨⟨_, rfl, b3, p3, l3, K3, q3, j3, J3, rfl, h3, n3, d3⟩, S, H⟩
  refine iv4 H n1 d1 n2 d2 ?_; clear n1 d1 n2 d2; intro n1 d1 n2 d2
  clear H; go_wp2_with fail
  refine (S.call (rof_any (-4) 1 _ (by decide) (by decide) (by decide) (by decide) (by decide) qw4 (by decide +kernel))).mono ?_
  clear S
  rintro e w4 ⟨⟨_, rfl, b4, p4, l4, K4, q4, j4, J4, rfl, h4, n4, d4⟩, S, H⟩
  refine iv6 H n1 d1 n2 d2 n3 d3 ?_; clear n1 d1 n2 d2 n3 d3; intro n1 d1 n2 d2 n3 d3
  clear H
  have H := S.hnew 34 [.bool b3, .slice p3 l3 K3, .slice q3 j3 J3, .bool b4, .slice p4 l4 K4, .slice q4 j4 J4]
  replace S := S.al 34 [.bool b3, .slice p3 l3 K3, .slice q3 j3 J3, .bool b4, .slice p4 l4 K4, .slice q4 j4 J4] (w4.heap.size)
  refine iv8 H n1 d1 n2 d2 n3 d3 n4 d4 ?_; clear n1 d1 n2 d2 n3 d3 n4 d4; intro n1 d1 n2 d2 n3 d3 n4 d4
  clear H; go_wp2_with fail
  have HIN := S.ins
  refine (S.call (vadd_any (S.rats 0 rfl (qs := [qv1, qvh]) ⟨⟨b1, p1, l1, K1, q1, j1, J1, rfl, rfl, rfl, h1, n1, d1⟩, ⟨b2, p2, l2, K2, q2, j2, J2, rfl, rfl, rfl, h2, n2, d2⟩, trivial⟩ (n := 2) (c := 2) rfl (by decide)) (S.rats 1 rfl (qs := [qv2, qw4]) ⟨⟨b3, p3, l3, K3, q3, j3, J3, rfl, rfl, rfl, h3, n3, d3⟩, ⟨b4, p4, l4, K4, q4, j4, J4, rfl, rfl, rfl, h4, n4, d4⟩, trivial⟩ (n := 2) (c := 2) rfl (by decide)) 2 rfl rfl (by decide) (k1 := 1) (k2 := 1) (fun q hq => (pt_rb q (pt_mem12 q hq)).1) (fun q hq => (pt_rb q (pt_mem24 q hq)).1) (by decide))).mono ?_
  clear S
  rintro e w5 ⟨⟨_, rfl, g5, vs5, rfl, hg, hh, r5⟩, S, H⟩
  refine iv8 H n1 d1 n2 d2 n3 d3 n4 d4 ?_; clear n1 d1 n2 d2 n3 d3 n4 d4; intro n1 d1 n2 d2 n3 d3 n4 d4
  clear H
  rw [pt_add] at r5
  replace S := S.adoptF HIN hg hh
  try simp only [List.cons_append, List.nil_append] at S
  clear HIN hg hh; go_wp2_with fail
  have HIN := S.ins
  refine (S.call (vsub_any (S.rats 0 rfl (qs := [qv1, qvh]) ⟨⟨b1, p1, l1, K1, q1, j1, J1, rfl, rfl, rfl, h1, n1, d1⟩, ⟨b2, p2, l2, K2, q2, j2, J2, rfl, rfl, rfl, h2, n2, d2⟩, trivial⟩ (n := 2) (c := 2) rfl (by decide)) (S.rats 1 rfl (qs := [qv2, qw4]) ⟨⟨b3, p3, l3, K3, q3, j3, J3, rfl, rfl, rfl, h3, n3, d3⟩, ⟨b4, p4, l4, K4, q4, j4, J4, rfl, rfl, rfl, h4, n4, d4⟩, trivial⟩ (n := 2) (c := 2) rfl (by decide)) 2 rfl rfl (by decide) (k1 := 1) (k2 := 1) (fun q hq => (pt_rb q (pt_mem12 q hq)).1) (fun q hq => (pt_rb q (pt_mem24 q hq)).1) (by decide))).mono ?_
  clear S
  rintro e w6 ⟨⟨_, rfl, g6, vs6, rfl, hg, hh, r6⟩, S, H⟩
  refine iv8 H n1 d1 n2 d2 n3 d3 n4 d4 ?_; clear n1 d1 n2 d2 n3 d3 n4 d4; intro n1 d1 n2 d2 n3 d3 n4 d4; replace r5 := r5.hold H
  clear H
  rw [pt_sub] at r6
  replace S := S.adoptF HIN hg hh
  try simp only [List.cons_append, List.nil_append] at S
  clear HIN hg hh; go_wp2_with fail
  refine (S.call (vdot_any (S.rats 0 rfl (qs := [qv1, qvh]) ⟨⟨b1, p1, l1, K1, q1, j1, J1, rfl, rfl, rfl, h1, n1, d1⟩, ⟨b2, p2, l2, K2, q2, j2, J2, rfl, rfl, rfl, h2, n2, d2⟩, trivial⟩ (n := 2) (c := 2) rfl (by decide)) (S.rats 1 rfl (qs := [qv2, qw4]) ⟨⟨b3, p3, l3, K3, q3, j3, J3, rfl, rfl, rfl, h3, n3, d3⟩, ⟨b4, p4, l4, K4, q4, j4, J4, rfl, rfl, rfl, h4, n4, d4⟩, trivial⟩ (n := 2) (c := 2) rfl (by decide)) 2 rfl rfl (by decide) (k1 := 1) (k2 := 1) (fun q hq => (pt_rb q (pt_mem12 q hq)).1) (fun q hq => (pt_rb q (pt_mem24 q hq)).1) (by decide))).mono ?_
  clear S
  rintro e w7 ⟨⟨_, rfl, b7, p7, l7, K7, q7, j7, J7, rfl, h7, n7, d7⟩, S, H⟩
  refine iv8 H n1 d1 n2 d2 n3 d3 n4 d4 ?_; clear n1 d1 n2 d2 n3 d3 n4 d4; intro n1 d1 n2 d2 n3 d3 n4 d4; refine iv2 H r5 r6 ?_; clear r5 r6; intro r5 r6
  clear H
  rw [pt_dot] at h7 n7 d7
  have H := S.hnew 34 [.bool b7, .slice p7 l7 K7, .slice q7 j7 J7]
  replace S := S.al 34 [.bool b7, .slice p7 l7 K7, .slice q7 j7 J7] (w7.heap.size)
  refine iv8 H n1 d1 n2 d2 n3 d3 n4 d4 ?_; clear n1 d1 n2 d2 n3 d3 n4 d4; intro n1 d1 n2 d2 n3 d3 n4 d4; refine iv4 H r5 r6 n7 d7 ?_; clear r5 r6 n7 d7; intro r5 r6 n7 d7
  clear H; go_wp2_with fail
  generalize (.tuple #[.agg #[.bool b7, .slice p7 l7 K7, .slice q7 j7 J7], .int .i64 0] : Value) = g1
  refine (S.call (rof_any (2) 1 _ (by decide) (by decide) (by decide) (by decide) (by decide) qv2 (by decide +kernel))).mono ?_
  clear S
  rintro e w8 ⟨⟨_, rfl, b8, p8, l8, K8, q8, j8, J8, rfl, h8, n8, d8⟩, S, H⟩
  refine iv8 H n1 d1 n2 d2 n3 d3 n4 d4 ?_; clear n1 d1 n2 d2 n3 d3 n4 d4; intro n1 d1 n2 d2 n3 d3 n4 d4; refine iv4 H r5 r6 n7 d7 ?_; clear r5 r6 n7 d7; intro r5 r6 n7 d7
  clear H; go_wp2_with fail
  have HIN := S.ins
  refine (S.call (vscale_any (S.rats 0 rfl (qs := [qv1, qvh]) ⟨⟨b1, p1, l1, K1, q1, j1, J1, rfl, rfl, rfl, h1, n1, d1⟩, ⟨b2, p2, l2, K2, q2, j2, J2, rfl, rfl, rfl, h2, n2, d2⟩, trivial⟩ (n := 2) (c := 2) rfl (by decide)) ⟨b8, p8, l8, K8, q8, j8, J8, rfl, h8, n8, d8⟩ 2 rfl (by decide) (k1 := 1) (k2 := 1) (fun q hq => (pt_rb q (pt_mem12 q hq)).1) (pt_rb qv2 (by decide)).1 (by decide))).mono ?_
  clear S
  rintro e w9 ⟨⟨_, rfl, g9, vs9, rfl, hg, hh, r9⟩, S, H⟩
  refine iv8 H n1 d1 n2 d2 n3 d3 n4 d4 ?_; clear n1 d1 n2 d2 n3 d3 n4 d4; intro n1 d1 n2 d2 n3 d3 n4 d4; refine iv6 H r5 r6 n7 d7 n8 d8 ?_; clear r5 r6 n7 d7 n8 d8; intro r5 r6 n7 d7 n8 d8
  clear H
  rw [pt_scale] at r9
  replace S := S.adoptF HIN hg hh
  try simp only [List.cons_append, List.nil_append] at S
  clear HIN hg hh; clear n8 d8; clear h8; go_wp2_with fail
  have HIN := S.ins
  refine (S.call (vnear_any (HT.out.below S.below) (S.rats 0 rfl (qs := [qv1, qvh]) ⟨⟨b1, p1, l1, K1, q1, j1, J1, rfl, rfl, rfl, h1, n1, d1⟩, ⟨b2, p2, l2, K2, q2, j2, J2, rfl, rfl, rfl, h2, n2, d2⟩, trivial⟩ (n := 2) (c := 2) rfl (by decide)) 2 rfl (by decide) (k := 1) (fun q hq => (pt_rb q (pt_mem12 q hq)).1) 10 (by decide) (by decide) (by decide))).mono ?_
  clear S
  rintro e w10 ⟨⟨_, rfl, g10, vs10, rfl, hg, hh, r10⟩, S, H⟩
  refine iv8 H n1 d1 n2 d2 n3 d3 n4 d4 ?_; clear n1 d1 n2 d2 n3 d3 n4 d4; intro n1 d1 n2 d2 n3 d3 n4 d4; refine iv5 H r5 r6 n7 d7 r9 ?_; clear r5 r6 n7 d7 r9; intro r5 r6 n7 d7 r9
  clear H
  rw [pt_near1] at r10
  replace S := S.adoptF HIN hg hh
  try simp only [List.cons_append, List.nil_append] at S
  clear HIN hg hh; go_wp2_with fail
  have HIN := S.ins
  refine (S.call (vnear_any (HT.out.below S.below) (S.rats 1 rfl (qs := [qv2, qw4]) ⟨⟨b3, p3, l3, K3, q3, j3, J3, rfl, rfl, rfl, h3, n3, d3⟩, ⟨b4, p4, l4, K4, q4, j4, J4, rfl, rfl, rfl, h4, n4, d4⟩, trivial⟩ (n := 2) (c := 2) rfl (by decide)) 2 rfl (by decide) (k := 1) (fun q hq => (pt_rb q (pt_mem24 q hq)).1) 10 (by decide) (by decide) (by decide))).mono ?_
  clear S
  rintro e w11 ⟨⟨_, rfl, g11, vs11, rfl, hg, hh, r11⟩, S, H⟩
  refine iv8 H n1 d1 n2 d2 n3 d3 n4 d4 ?_; clear n1 d1 n2 d2 n3 d3 n4 d4; intro n1 d1 n2 d2 n3 d3 n4 d4; refine iv6 H r5 r6 n7 d7 r9 r10 ?_; clear r5 r6 n7 d7 r9 r10; intro r5 r6 n7 d7 r9 r10
  clear H
  rw [pt_near2] at r11
  replace S := S.adoptF HIN hg hh
  try simp only [List.cons_append, List.nil_append] at S
  clear HIN hg hh; go_wp2_with fail
  refine (S.call (vinner_any (HT.out.below S.below) (S.spans 6 rfl r10 (n := 2) (c := 2) rfl (by decide)) (S.spans 7 rfl r11 (n := 2) (c := 2) rfl (by decide)) 2 rfl rfl (by decide) 10 (by decide) (by decide) (by decide))).mono ?_
  clear S
  rintro e w12 ⟨⟨_, rfl, b12, p12, l12, K12, m12, e12, b13, p13, l13, K13, m13, e13, rfl, h12, n12, d12, h13, n13, d13⟩, S, H⟩
  refine iv8 H n1 d1 n2 d2 n3 d3 n4 d4 ?_; clear n1 d1 n2 d2 n3 d3 n4 d4; intro n1 d1 n2 d2 n3 d3 n4 d4; refine iv7 H r5 r6 n7 d7 r9 r10 r11 ?_; clear r5 r6 n7 d7 r9 r10 r11; intro r5 r6 n7 d7 r9 r10 r11
  clear H
  rw [pt_inner] at d12 d13
  have H := S.hnew 29 [.bool b12, .slice p12 l12 K12, .int .i64 e12, .bool b13, .slice p13 l13 K13, .int .i64 e13]
  replace S := S.al 29 [.bool b12, .slice p12 l12 K12, .int .i64 e12, .bool b13, .slice p13 l13 K13, .int .i64 e13] (w12.heap.size)
  refine iv8 H n1 d1 n2 d2 n3 d3 n4 d4 ?_; clear n1 d1 n2 d2 n3 d3 n4 d4; intro n1 d1 n2 d2 n3 d3 n4 d4; refine iv8 H r5 r6 n7 d7 r9 r10 r11 n12 ?_; clear r5 r6 n7 d7 r9 r10 r11 n12; intro r5 r6 n7 d7 r9 r10 r11 n12; replace n13 := n13.hold H
  clear H; go_wp2_with fail
  generalize (.tuple #[.agg #[.bool b12, .slice p12 l12 K12, .int .i64 e12, .bool b13, .slice p13 l13 K13, .int .i64 e13], .int .i64 0] : Value) = g2
  have HIN := S.ins
  refine (S.call (vplus_any (HT.out.below S.below) (S.spans 6 rfl r10 (n := 2) (c := 2) rfl (by decide)) (S.spans 7 rfl r11 (n := 2) (c := 2) rfl (by decide)) 2 rfl rfl (by decide) 10 (by decide) (by decide) (by decide))).mono ?_
  clear S
  rintro e w13 ⟨⟨_, rfl, g14, vs14, rfl, hg, hh, r14⟩, S, H⟩
  refine iv8 H n1 d1 n2 d2 n3 d3 n4 d4 ?_; clear n1 d1 n2 d2 n3 d3 n4 d4; intro n1 d1 n2 d2 n3 d3 n4 d4; refine iv8 H r5 r6 n7 d7 r9 r10 r11 n12 ?_; clear r5 r6 n7 d7 r9 r10 r11 n12; intro r5 r6 n7 d7 r9 r10 r11 n12; replace n13 := n13.hold H
  clear H
  rw [pt_plus] at r14
  replace S := S.adoptF HIN hg hh
  try simp only [List.cons_append, List.nil_append] at S
  clear HIN hg hh; go_wp2_with fail
  refine (S.call (dof_any 2 0 _ (HT.out.below S.below) (by decide) (by decide) (by decide) (by decide) qv2 (by decide +kernel))).mono ?_
  clear S
  rintro e w14 ⟨⟨_, rfl, b15, p15, l15, K15, m15, e15, rfl, h15, n15, d15⟩, S, H⟩
  refine iv8 H n1 d1 n2 d2 n3 d3 n4 d4 ?_; clear n1 d1 n2 d2 n3 d3 n4 d4; intro n1 d1 n2 d2 n3 d3 n4 d4; refine iv8 H r5 r6 n7 d7 r9 r10 r11 n12 ?_; clear r5 r6 n7 d7 r9 r10 r11 n12; intro r5 r6 n7 d7 r9 r10 r11 n12; refine iv2 H n13 r14 ?_; clear n13 r14; intro n13 r14
  clear H; go_wp2_with fail
  refine (S.call (spoint_any ⟨b15, p15, l15, K15, m15, e15, rfl, h15, n15, d15⟩ (by decide))).mono ?_
  clear S
  rintro e w15 ⟨⟨_, rfl, b16, p16, l16, K16, m16, e16, b17, p17, l17, K17, m17, e17, rfl, h16, n16, d16, h17, n17, d17⟩, S, H⟩
  refine iv8 H n1 d1 n2 d2 n3 d3 n4 d4 ?_; clear n1 d1 n2 d2 n3 d3 n4 d4; intro n1 d1 n2 d2 n3 d3 n4 d4; refine iv8 H r5 r6 n7 d7 r9 r10 r11 n12 ?_; clear r5 r6 n7 d7 r9 r10 r11 n12; intro r5 r6 n7 d7 r9 r10 r11 n12; refine iv3 H n13 r14 n15 ?_; clear n13 r14 n15; intro n13 r14 n15
  clear H; clear n15; clear h15 d15; go_wp2_with fail
  have HIN := S.ins
  refine (S.call (vtimes_any (y := (qv2, qv2)) (HT.out.below S.below) (S.spans 6 rfl r10 (n := 2) (c := 2) rfl (by decide)) ⟨b16, p16, l16, K16, m16, e16, b17, p17, l17, K17, m17, e17, rfl, h16, n16, d16, h17, n17, d17⟩ 2 rfl (by decide) 10 (by decide) (by decide) (by decide))).mono ?_
  clear S
  rintro e w16 ⟨⟨_, rfl, g18, vs18, rfl, hg, hh, r18⟩, S, H⟩
  refine iv8 H n1 d1 n2 d2 n3 d3 n4 d4 ?_; clear n1 d1 n2 d2 n3 d3 n4 d4; intro n1 d1 n2 d2 n3 d3 n4 d4; refine iv8 H r5 r6 n7 d7 r9 r10 r11 n12 ?_; clear r5 r6 n7 d7 r9 r10 r11 n12; intro r5 r6 n7 d7 r9 r10 r11 n12; refine iv4 H n13 r14 n16 n17 ?_; clear n13 r14 n16 n17; intro n13 r14 n16 n17
  clear H
  rw [pt_times] at r18
  replace S := S.adoptF HIN hg hh
  try simp only [List.cons_append, List.nil_append] at S
  clear HIN hg hh; clear n16 n17; clear h16 d16 h17 d17; go_wp2_with fail
  refine (S.call (vholds_yes (k1 := 30) (k2 := 1) (S.spans 10 rfl r18 (n := 2) (c := 2) rfl (by decide)) (S.rats 5 rfl r9 (n := 2) (c := 2) rfl (by decide)) 2 rfl rfl (by decide) (by decide) (by decide) (by decide) pt_tmem pt_in)).mono ?_
  clear S
  rintro e w17 ⟨rfl, S, H⟩
  refine iv8 H n1 d1 n2 d2 n3 d3 n4 d4 ?_; clear n1 d1 n2 d2 n3 d3 n4 d4; intro n1 d1 n2 d2 n3 d3 n4 d4; refine iv8 H r5 r6 n7 d7 r9 r10 r11 n12 ?_; clear r5 r6 n7 d7 r9 r10 r11 n12; intro r5 r6 n7 d7 r9 r10 r11 n12; refine iv3 H n13 r14 r18 ?_; clear n13 r14 r18; intro n13 r14 r18
  clear H; clear r9 r18 r10; go_wp2_with fail
  refine (S.call (vadd_bad _ none 2 2 0 0 _ (by decide))).mono ?_
  clear S
  rintro e w18 ⟨rfl, S, H⟩
  refine iv8 H n1 d1 n2 d2 n3 d3 n4 d4 ?_; clear n1 d1 n2 d2 n3 d3 n4 d4; intro n1 d1 n2 d2 n3 d3 n4 d4; refine iv8 H r5 r6 n7 d7 r11 n12 n13 r14 ?_; clear r5 r6 n7 d7 r11 n12 n13 r14; intro r5 r6 n7 d7 r11 n12 n13 r14
  clear H
  obtain ⟨_, _, _, k0, k1, k2, b20, p20, l20, K20, q20, j20, J20, rfl, rfl, rfl, h20, n20, d20⟩ := r5.get (j := 1) rfl
  have a0 := S.c 2 _ rfl k0; have a1 := S.c 2 _ rfl k1; have a2 := S.c 2 _ rfl k2
  clear k0 k1 k2
  simp only [Nat.one_mul, Nat.zero_mul, Nat.zero_add, Nat.reduceAdd, Nat.reduceMul] at a0 a1 a2
  go_wp2_with fail
  refine (S.call (rtext_lit ⟨b20, p20, l20, K20, q20, j20, J20, rfl, h20, n20, d20⟩ ⟨#[45, 55, 47, 50]⟩ (pt_rb qw7 (by decide)).2 txt_w7)).mono ?_
  clear S
  rintro e w19 ⟨rfl, S, H⟩
  refine iv8 H n1 d1 n2 d2 n3 d3 n4 d4 ?_; clear n1 d1 n2 d2 n3 d3 n4 d4; intro n1 d1 n2 d2 n3 d3 n4 d4; refine iv8 H r5 r6 n7 d7 r11 n12 n13 r14 ?_; clear r5 r6 n7 d7 r11 n12 n13 r14; intro r5 r6 n7 d7 r11 n12 n13 r14
  clear H; clear a0 a1 a2 h20 n20 d20; clear r5
  obtain ⟨_, _, _, k0, k1, k2, b21, p21, l21, K21, q21, j21, J21, rfl, rfl, rfl, h21, n21, d21⟩ := r6.get (j := 1) rfl
  have a0 := S.c 3 _ rfl k0; have a1 := S.c 3 _ rfl k1; have a2 := S.c 3 _ rfl k2
  clear k0 k1 k2
  simp only [Nat.one_mul, Nat.zero_mul, Nat.zero_add, Nat.reduceAdd, Nat.reduceMul] at a0 a1 a2
  go_wp2_with fail
  refine (S.call (rtext_lit ⟨b21, p21, l21, K21, q21, j21, J21, rfl, h21, n21, d21⟩ ⟨#[57, 47, 50]⟩ (pt_rb qv9 (by decide)).2 txt_v9)).mono ?_
  clear S
  rintro e w20 ⟨rfl, S, H⟩
  refine iv8 H n1 d1 n2 d2 n3 d3 n4 d4 ?_; clear n1 d1 n2 d2 n3 d3 n4 d4; intro n1 d1 n2 d2 n3 d3 n4 d4; refine iv7 H r6 n7 d7 r11 n12 n13 r14 ?_; clear r6 n7 d7 r11 n12 n13 r14; intro r6 n7 d7 r11 n12 n13 r14
  clear H; clear a0 a1 a2 h21 n21 d21; clear r6; obtain ⟨c4_0, c4_1, c4_2⟩ := S.c3 4 rfl; go_wp2_with fail
  refine (S.call (rsign_any ⟨b7, p7, l7, K7, q7, j7, J7, rfl, h7, n7, d7⟩ (pt_rb qv0 (by decide)).2.1 (show qv0.num.sign = 0 by decide +kernel))).mono ?_
  clear S
  rintro e w21 ⟨rfl, S, H⟩
  refine iv8 H n1 d1 n2 d2 n3 d3 n4 d4 ?_; clear n1 d1 n2 d2 n3 d3 n4 d4; intro n1 d1 n2 d2 n3 d3 n4 d4; refine iv6 H n7 d7 r11 n12 n13 r14 ?_; clear n7 d7 r11 n12 n13 r14; intro n7 d7 r11 n12 n13 r14
  clear H; clear c4_0 c4_1 c4_2; clear n7 d7; clear h7; obtain ⟨c8_0, c8_1, c8_2, c8_3, c8_4, c8_5⟩ := S.c6 8 rfl; go_wp2_with fail
  refine (S.call (stext_v ⟨b12, p12, l12, K12, m12, e12, b13, p13, l13, K13, m13, e13, rfl, h12, n12, d12, h13, n13, d13⟩ (by decide) ⟨#[48]⟩ ⟨#[48]⟩ (pt_rb qv0 (by decide)).2 (pt_rb qv0 (by decide)).2 txt_v0 txt_v0 (by decide) (by decide) ⟨#[48, 46, 46, 48]⟩ rfl)).mono ?_
  clear S
  rintro e w22 ⟨rfl, S, H⟩
  refine iv8 H n1 d1 n2 d2 n3 d3 n4 d4 ?_; clear n1 d1 n2 d2 n3 d3 n4 d4; intro n1 d1 n2 d2 n3 d3 n4 d4; refine iv4 H r11 n12 n13 r14 ?_; clear r11 n12 n13 r14; intro r11 n12 n13 r14
  clear H; clear c8_0 c8_1 c8_2 c8_3 c8_4 c8_5; clear n12 n13; clear h12 d12 h13 d13
  obtain ⟨_, _, _, _, _, _, k0, k1, k2, k3, k4, k5, b22, p22, l22, K22, m22, e22, b23, p23, l23, K23, m23, e23, hv, h22, n22, d22, h23, n23, d23⟩ := r14.get (j := 0) rfl
  simp only [Value.agg.injEq, Array.mk.injEq, List.cons.injEq, and_true] at hv
  obtain ⟨rfl, rfl, rfl, rfl, rfl, rfl⟩ := hv
  have a0 := S.c 9 _ rfl k0; have a1 := S.c 9 _ rfl k1; have a2 := S.c 9 _ rfl k2; have a3 := S.c 9 _ rfl k3; have a4 := S.c 9 _ rfl k4; have a5 := S.c 9 _ rfl k5
  clear k0 k1 k2 k3 k4 k5
  simp only [Nat.one_mul, Nat.zero_mul, Nat.zero_add, Nat.reduceAdd, Nat.reduceMul] at a0 a1 a2 a3 a4 a5
  go_wp2_with fail
  refine (S.call (stext_v ⟨b22, p22, l22, K22, m22, e22, b23, p23, l23, K23, m23, e23, rfl, h22, n22, d22, h23, n23, d23⟩ (by decide) ⟨#[51]⟩ ⟨#[51]⟩ (pt_rb qv3 (by decide)).2 (pt_rb qv3 (by decide)).2 txt_v3 txt_v3 (by decide) (by decide) ⟨#[51, 46, 46, 51]⟩ rfl)).mono ?_
  clear S
  rintro e w23 ⟨rfl, S, H⟩
  refine iv8 H n1 d1 n2 d2 n3 d3 n4 d4 ?_; clear n1 d1 n2 d2 n3 d3 n4 d4; intro n1 d1 n2 d2 n3 d3 n4 d4; refine iv2 H r11 r14 ?_; clear r11 r14; intro r11 r14
  clear H; clear a0 a1 a2 a3 a4 a5 h22 n22 d22 h23 n23 d23; clear r14; go_wp2_with fail
  refine (S.call (vnorm_any (S.spans 7 rfl r11 (n := 2) (c := 2) rfl (by decide)) 2 rfl (by decide) (by decide))).mono ?_
  clear S
  rintro e w24 ⟨⟨_, rfl, b24, p24, l24, K24, m24, e24, rfl, h24, n24, d24⟩, S, H⟩
  refine iv8 H n1 d1 n2 d2 n3 d3 n4 d4 ?_; clear n1 d1 n2 d2 n3 d3 n4 d4; intro n1 d1 n2 d2 n3 d3 n4 d4; replace r11 := r11.hold H
  clear H
  rw [pt_norm] at d24
  clear r11; go_wp2_with fail
  refine (S.call (dof_any 4 0 _ (HT.out.below S.below) (by decide) (by decide) (by decide) (by decide) qv4 (by decide +kernel))).mono ?_
  clear S
  rintro e w25 ⟨⟨_, rfl, b25, p25, l25, K25, m25, e25, rfl, h25, n25, d25⟩, S, H⟩
  refine iv8 H n1 d1 n2 d2 n3 d3 n4 d4 ?_; clear n1 d1 n2 d2 n3 d3 n4 d4; intro n1 d1 n2 d2 n3 d3 n4 d4; replace n24 := n24.hold H
  clear H; go_wp2_with fail
  refine (S.call (dcompare_any (L := 100) (H := 164) (IsD.mono ⟨b24, p24, l24, K24, m24, e24, rfl, h24, n24, d24⟩ (by decide) (by decide)) (IsD.mono ⟨b25, p25, l25, K25, m25, e25, rfl, h25, n25, d25⟩ (by decide) (by decide)) (by decide) 0 (by decide +kernel))).mono ?_
  clear S
  rintro e w26 ⟨rfl, S, H⟩
  refine iv8 H n1 d1 n2 d2 n3 d3 n4 d4 ?_; clear n1 d1 n2 d2 n3 d3 n4 d4; intro n1 d1 n2 d2 n3 d3 n4 d4; refine iv2 H n24 n25 ?_; clear n24 n25; intro n24 n25
  clear H; clear n24 n25; clear h24 d24 h25 d25; go_wp2_with fail
  refine (S.call (vsame_any (S.rats 0 rfl (qs := [qv1, qvh]) ⟨⟨b1, p1, l1, K1, q1, j1, J1, rfl, rfl, rfl, h1, n1, d1⟩, ⟨b2, p2, l2, K2, q2, j2, J2, rfl, rfl, rfl, h2, n2, d2⟩, trivial⟩ (n := 2) (c := 2) rfl (by decide)) (S.rats 0 rfl (qs := [qv1, qvh]) ⟨⟨b1, p1, l1, K1, q1, j1, J1, rfl, rfl, rfl, h1, n1, d1⟩, ⟨b2, p2, l2, K2, q2, j2, J2, rfl, rfl, rfl, h2, n2, d2⟩, trivial⟩ (n := 2) (c := 2) rfl (by decide)) 2 rfl rfl (by decide) (fun q hq => (pt_rb q (pt_mem12 q hq)).2) (r := true) (by decide))).mono ?_
  clear S
  rintro e w27 ⟨rfl, S, H⟩
  refine iv8 H n1 d1 n2 d2 n3 d3 n4 d4 ?_; clear n1 d1 n2 d2 n3 d3 n4 d4; intro n1 d1 n2 d2 n3 d3 n4 d4
  clear H; go_wp2_with fail
  refine (S.call (vsame_any (S.rats 0 rfl (qs := [qv1, qvh]) ⟨⟨b1, p1, l1, K1, q1, j1, J1, rfl, rfl, rfl, h1, n1, d1⟩, ⟨b2, p2, l2, K2, q2, j2, J2, rfl, rfl, rfl, h2, n2, d2⟩, trivial⟩ (n := 2) (c := 2) rfl (by decide)) (S.rats 1 rfl (qs := [qv2, qw4]) ⟨⟨b3, p3, l3, K3, q3, j3, J3, rfl, rfl, rfl, h3, n3, d3⟩, ⟨b4, p4, l4, K4, q4, j4, J4, rfl, rfl, rfl, h4, n4, d4⟩, trivial⟩ (n := 2) (c := 2) rfl (by decide)) 2 rfl rfl (by decide) (fun q hq => (pt_rb q (pt_mem12 q hq)).2) (r := false) (by decide +kernel))).mono ?_
  clear S
  rintro e w28 ⟨rfl, S, H⟩
  refine iv8 H n1 d1 n2 d2 n3 d3 n4 d4 ?_; clear n1 d1 n2 d2 n3 d3 n4 d4; intro n1 d1 n2 d2 n3 d3 n4 d4
  clear H; clear n3 d3 n4 d4; clear h3 h4; go_wp2_with fail
  refine (S.call (vzero_any 3 (by decide) _)).mono ?_
  clear S
  rintro e w29 ⟨⟨_, rfl, g30, vs30, rfl, hg, hh, r30⟩, S, H⟩
  refine iv4 H n1 d1 n2 d2 ?_; clear n1 d1 n2 d2; intro n1 d1 n2 d2
  clear H; clear hg hh r30; go_wp2_with fail
  have HIN := S.ins
  refine (S.call (vunit_any 3 (by decide) 1 _)).mono ?_
  clear S
  rintro e w30 ⟨⟨_, rfl, g31, vs31, rfl, hg, hh, r31⟩, S, H⟩
  refine iv4 H n1 d1 n2 d2 ?_; clear n1 d1 n2 d2; intro n1 d1 n2 d2
  clear H
  rw [pt_unit] at r31
  replace S := S.adoptF HIN hg hh
  try simp only [List.cons_append, List.nil_append] at S
  clear HIN hg hh
  obtain ⟨_, _, _, k0, k1, k2, b26, p26, l26, K26, q26, j26, J26, rfl, rfl, rfl, h26, n26, d26⟩ := r31.get (j := 1) rfl
  have a0 := S.c 11 _ rfl k0; have a1 := S.c 11 _ rfl k1; have a2 := S.c 11 _ rfl k2
  clear k0 k1 k2
  simp only [Nat.one_mul, Nat.zero_mul, Nat.zero_add, Nat.reduceAdd, Nat.reduceMul] at a0 a1 a2
  go_wp2_with fail
  refine (S.call (rtext_lit ⟨b26, p26, l26, K26, q26, j26, J26, rfl, h26, n26, d26⟩ ⟨#[49]⟩ (pt_rb qv1 (by decide)).2 txt_v1)).mono ?_
  clear S
  rintro e w31 ⟨rfl, S, H⟩
  refine iv5 H n1 d1 n2 d2 r31 ?_; clear n1 d1 n2 d2 r31; intro n1 d1 n2 d2 r31
  clear H; clear a0 a1 a2 h26 n26 d26; clear r31; go_wp2_with fail
  refine (S.call (vcheck_any (S.rats 0 rfl (qs := [qv1, qvh]) ⟨⟨b1, p1, l1, K1, q1, j1, J1, rfl, rfl, rfl, h1, n1, d1⟩, ⟨b2, p2, l2, K2, q2, j2, J2, rfl, rfl, rfl, h2, n2, d2⟩, trivial⟩ (n := 2) (c := 2) rfl (by decide)) rfl (by decide) (fun q hq => (pt_rb q (pt_mem12 q hq)).2))).mono ?_
  clear S
  rintro e w32 ⟨rfl, S, H⟩
  refine iv4 H n1 d1 n2 d2 ?_; clear n1 d1 n2 d2; intro n1 d1 n2 d2
  clear H; go_wp2_with fail
  refine (S.call (vcheck_shape _ 2 2 3 _ (by decide))).mono ?_
  clear S
  rintro e w33 ⟨rfl, S, H⟩
  refine iv4 H n1 d1 n2 d2 ?_; clear n1 d1 n2 d2; intro n1 d1 n2 d2
  clear H; go_wp2_with fail
  exact bodyPost_ret (v := .bool true) (by simp [results, Tryz.f32, go_sem]) rfl (⟨rfl, S.below⟩)
end Go.Proofs.YtcfgefbkeeedgaaGreatDoor
