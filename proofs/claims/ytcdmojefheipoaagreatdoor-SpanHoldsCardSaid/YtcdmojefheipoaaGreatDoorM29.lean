/-
  What the statement stands on.
-/
import Derived.Test.YtcdmojefheipoaaGreatDoorM23
import Derived.Test.YtcdmojefheipoaaGreatDoorM28
namespace Go.Proofs.YtcdmojefheipoaaGreatDoor
open Go.RowKit
theorem bs_add (s t : ByteArray) : bs (s ++ t) = bs s ++ bs t := by simp [bs]
def IsRText (l : List Nat) (x : Rat) : Prop := (x.den = 1 ∧ IsIText l x.num) ∨ (x.den ≠ 1 ∧ ∃ t u, l = t ++ 47 :: u ∧ IsIText t x.num ∧ IsText u x.den)
theorem itext_len {l : List Nat} {x : Int} (h : IsIText l x) (hx : x.natAbs < maxN) : l.length ≤ 5464 := by
  rcases h with ⟨_, t, rfl, h⟩ | ⟨_, h⟩
  · have := text_len h hx; simp; omega
  · have := text_len h hx; omega
theorem cmpI_one (m : Nat) (h : m ≠ 0) : (cmpI (m : Int) ((1 : Nat) : Int) == 0) = decide (m = 1) := by
  rw [Bool.eq_iff_iff]
  simp [cmpI]
  split
  · omega
  · split
    · omega
    · omega
theorem wtext_sz {va : Value} {x : Int} {w : World} (ha : IsInt w va x) (hx : x.natAbs < maxN) :
    Calls Tryz.prog 154 #[va] w fun e w' => (∃ s, e = .returned (.string s) ∧ s.size ≤ 5464 ∧ Hid (IsIText (bs s) x)) ∧ Below w.heap.size w w' :=
  (wtext_any ha hx).mono fun _ _ h => ⟨⟨h.1.choose, h.1.choose_spec.1, by rw [← bs_len]; exact itext_len h.1.choose_spec.2 hx, h.1.choose_spec.2⟩, h.2⟩
theorem text_sz {va : Value} {x : Nat} {w : World} (ha : IsNat w va x) (hx : x < maxN) :
    Calls Tryz.prog 155 #[va] w fun e w' => (∃ s, e = .returned (.string s) ∧ s.size ≤ 5463 ∧ Hid (IsText (bs s) x)) ∧ Below w.heap.size w w' :=
  (text_any ha hx).mono fun _ _ h => ⟨⟨h.1.choose, h.1.choose_spec.1, by rw [← bs_len]; exact text_len h.1.choose_spec.2 hx, h.1.choose_spec.2⟩, h.2⟩
set_option maxRecDepth 100000 in
set_option maxHeartbeats 4000000 in
theorem rtext_any {va : Value} {x : Rat} {w : World} (ha : IsRat w va x) (hx : x.num.natAbs < maxN ∧ x.den < maxN) :
    Calls Tryz.prog 96 #[va] w fun e w' => (∃ s, e = .returned (.string s) ∧ IsRText (bs s) x) ∧ Below w.heap.size w w' := by
  obtain ⟨b1, p1, l1, K1, q1, j1, J1, rfl, hb1, n1, d1⟩ := ha
  obtain ⟨c, hc⟩ : ∃ c, cmpI (x.den : Int) ((1 : Nat) : Int) = c := ⟨_, rfl⟩
  have HX := Lib.hid hx
  have HC := Lib.hid hc
  have h1 := cmpI_one x.den x.den_nz
  rw [hc] at h1
  clear hx hc
  by_cases hd : x.den = 1
  · have hcz : (c == 0) = true := by rw [h1]; exact decide_eq_true hd
    have HD := Lib.hid hd
    clear h1 hd
    have S := (St.start w).alloc 34 [.bool b1, .slice p1 l1 K1, .slice q1 j1 J1] (w.heap.size)
    try simp only [List.nil_append] at S
    replace n1 := n1.hold S.hold; replace d1 := d1.hold S.hold
    have c0_ := S.c3 0 rfl
    go_enter Tryz.func96, Tryz.ntmps96
    go_upto_region 1 with fail
    clear c0_
    generalize (w.alloc (.cells #[.bool b1, .slice p1 l1 K1, .slice q1 j1 J1] 34)) = w1 at S n1 d1 ⊢
    have HH := Hold.drew w1
    replace n1 := n1.hold HH; replace d1 := d1.hold HH
    replace S := S.drew
    refine wp_region_held_drew (S := fun W => W.cell? ⟨w.heap.size, 0, none⟩ = some (.bool b1) ∧ W.cell? ⟨w.heap.size, 1, none⟩ = some (.slice p1 l1 K1) ∧ W.cell? ⟨w.heap.size, 2, none⟩ = some (.slice q1 j1 J1)) (by kernel_rfl) (S.c3 0 rfl) (fun hS => ?_)
    generalize w1.drew = w2 at S n1 d1 HH hS ⊢
    refine tkl 0 hS ?_
    refine tkl 1 hS ?_
    refine rd 2 fun KK hKK => ?_
    go_simp; clear hS
    refine S.cl (of_any 1 _ (by decide)) ?_; clear S; rintro e w3 ⟨vo, rfl, no⟩ S H
    refine iv3 H n1 d1 HH ?_; clear n1 d1 HH H; intro n1 d1 HH
    go_wp2_with fail
    refine ho hKK (S.c3 0 rfl) fun hS => ?_
    clear hKK KK
    refine rd 3 fun KK hKK => ?_
    go_simp; clear hS
    refine S.cl (compare_nat d1 no HX.out.2 (lt_maxN (by decide)) HC.out) ?_; clear S; rintro e w4 rfl S H
    refine iv4 H n1 d1 no HH ?_; clear n1 d1 no HH H; intro n1 d1 no HH
    go_wp2_with fail
    refine ho hKK (S.c3 0 rfl) fun hS => ?_
    clear hKK KK
    refine tkl 4 hS ?_
    refine wpAnyH_done (by kernel_rfl) ?_ _
    clear hS HH; have c0_ := S.c3 0 rfl; go_wp2_with fail; clear c0_
    refine S.cl (wtext_any ⟨_, _, _, by rw [hb1.out], n1⟩ HX.out.1) ?_; clear S; rintro e w5 ⟨s, rfl, hs⟩ S H
    refine iv3 H n1 d1 no ?_; clear n1 d1 no; intro n1 d1 no
    clear H; have c0_ := S.c3 0 rfl; go_wp2_with fail
    exact bodyPost_ret (v := .string s) (by simp [results, Tryz.f96, go_sem]) rfl (⟨⟨s, rfl, .inl ⟨HD.out, hs⟩⟩, S.below⟩)
  · have hcz : (c == 0) = false := by rw [h1]; exact decide_eq_false hd
    have HD := Lib.hid hd
    clear h1 hd
    have S := (St.start w).alloc 34 [.bool b1, .slice p1 l1 K1, .slice q1 j1 J1] (w.heap.size)
    try simp only [List.nil_append] at S
    replace n1 := n1.hold S.hold; replace d1 := d1.hold S.hold
    have c0_ := S.c3 0 rfl
    go_enter Tryz.func96, Tryz.ntmps96
    go_upto_region 1 with fail
    clear c0_
    generalize (w.alloc (.cells #[.bool b1, .slice p1 l1 K1, .slice q1 j1 J1] 34)) = w1 at S n1 d1 ⊢
    have HH := Hold.drew w1
    replace n1 := n1.hold HH; replace d1 := d1.hold HH
    replace S := S.drew
    refine wp_region_held_drew (S := fun W => W.cell? ⟨w.heap.size, 0, none⟩ = some (.bool b1) ∧ W.cell? ⟨w.heap.size, 1, none⟩ = some (.slice p1 l1 K1) ∧ W.cell? ⟨w.heap.size, 2, none⟩ = some (.slice q1 j1 J1)) (by kernel_rfl) (S.c3 0 rfl) (fun hS => ?_)
    generalize w1.drew = w2 at S n1 d1 HH hS ⊢
    refine tkl 0 hS ?_
    refine tkl 1 hS ?_
    refine rd 2 fun KK hKK => ?_
    go_simp; clear hS
    refine S.cl (of_any 1 _ (by decide)) ?_; clear S; rintro e w3 ⟨vo, rfl, no⟩ S H
    refine iv3 H n1 d1 HH ?_; clear n1 d1 HH H; intro n1 d1 HH
    go_wp2_with fail
    refine ho hKK (S.c3 0 rfl) fun hS => ?_
    clear hKK KK
    refine rd 3 fun KK hKK => ?_
    go_simp; clear hS
    refine S.cl (compare_nat d1 no HX.out.2 (lt_maxN (by decide)) HC.out) ?_; clear S; rintro e w4 rfl S H
    refine iv4 H n1 d1 no HH ?_; clear n1 d1 no HH H; intro n1 d1 no HH
    go_wp2_with fail
    refine ho hKK (S.c3 0 rfl) fun hS => ?_
    clear hKK KK
    refine tkl 4 hS ?_
    refine wpAnyH_done (by kernel_rfl) ?_ _
    clear hS HH; have c0_ := S.c3 0 rfl
    go_upto_region 3 with fail
    clear c0_
    have HH := Hold.drew w4
    refine iv3 HH n1 d1 no ?_; clear n1 d1 no; intro n1 d1 no
    replace S := S.drew
    refine wp_region_held_drew (S := fun W => W.cell? ⟨w.heap.size, 0, none⟩ = some (.bool b1) ∧ W.cell? ⟨w.heap.size, 1, none⟩ = some (.slice p1 l1 K1) ∧ W.cell? ⟨w.heap.size, 2, none⟩ = some (.slice q1 j1 J1)) (by kernel_rfl) (S.c3 0 rfl) (fun hS => ?_)
    generalize w4.drew = w5 at S n1 d1 no HH hS ⊢
    refine tkl 0 hS ?_
    refine tkl 1 hS ?_
    refine tkl 4 hS ?_
    refine tkl 5 hS ?_
    refine rd 2 fun KK hKK => ?_
    go_simp; clear hS
    refine S.cl (wtext_sz ⟨_, _, _, by rw [hb1.out], n1⟩ HX.out.1) ?_; clear S; rintro e w6 ⟨s, rfl, ls, hs⟩ S H
    refine iv4 H n1 d1 no HH ?_; clear n1 d1 no HH H; intro n1 d1 no HH
    go_wp2_with fail
    refine ho hKK (S.c3 0 rfl) fun hS => ?_
    clear hKK KK
    refine tkl 3 hS ?_
    refine rd 6 fun KK hKK => ?_
    go_simp; clear hS
    refine S.cl (text_sz d1 HX.out.2) ?_; clear S; rintro e w7 ⟨t, rfl, lt, ht⟩ S H
    refine iv4 H n1 d1 no HH ?_; clear n1 d1 no HH H; intro n1 d1 no HH
    go_wp2_with fail
    refine ho hKK (S.c3 0 rfl) fun hS => ?_
    clear hKK KK
    refine tkl 7 hS ?_
    refine rd 8 fun KK hKK => ?_
    go_simp
    refine ho hKK hS fun hS => ?_
    clear hKK KK
    refine wpAnyH_done (by kernel_rfl) ?_ _
    clear hS HH; have c0_ := S.c3 0 rfl; go_wp2_with fail
    exact bodyPost_ret (v := .string (s ++ ⟨#[47]⟩ ++ t)) (by simp [results, Tryz.f96, go_sem]) rfl (⟨⟨_, rfl, .inr ⟨HD.out, _, _, by rw [bs_add, bs_add]; exact List.append_assoc _ _ _, hs.out, ht.out⟩⟩, S.below⟩)
theorem IsRText.uniq {l m : List Nat} {x : Rat} (h : IsRText l x) (g : IsRText m x) : l = m := by
  rcases h with ⟨h0, h1⟩ | ⟨h0, t, u, rfl, h1, h2⟩ <;> rcases g with ⟨g0, g1⟩ | ⟨g0, t', u', rfl, g1, g2⟩
  · exact h1.uniq g1
  · exact absurd h0 g0
  · exact absurd g0 h0
  · rw [h1.uniq g1, h2.uniq g2]
theorem rtext_lit {va : Value} {x : Rat} {w : World} (ha : IsRat w va x) (s : ByteArray) (hx : x.num.natAbs < maxN ∧ x.den < maxN) (hs : IsRText (bs s) x) :
    Calls Tryz.prog 96 #[va] w fun e w' => e = .returned (.string s) ∧ Below w.heap.size w w' :=
  (rtext_any ha hx).mono fun _ _ h => ⟨by obtain ⟨t, h1, h2⟩ := h.1; rw [h1, bs_inj (h2.uniq hs)], h.2⟩
theorem rb_one {x : Rat} (h1 : x.num.natAbs < 4294967296) (h2 : x.den < 4294967296) : RB x 1 := ⟨by rw [NB_one]; exact h1, by rw [NB_one]; exact h2⟩
theorem rtext_frac (n : Int) (d : Nat) (x : Rat) (hn : x.num = n) (hd : x.den = d) (t u l : List Nat) (hl : l = t ++ 47 :: u) (h1 : d ≠ 1) (ht : IsIText t n) (hu : IsText u d) : IsRText l x :=
  .inr ⟨by rw [hd]; exact h1, t, u, hl, by rw [hn]; exact ht, by rw [hd]; exact hu⟩
theorem dq_halved (m e : Int) : dq m (e - 1) = dq m e * (1 / 2) := by
  have h : dq 1 (-1) = 1 / 2 := by decide +kernel
  rw [← h, dq_mul, Int.mul_one, ← Int.sub_eq_add_neg]
theorem ZF.half {m e : Int} {L H : Nat} (h : ZF m e L (H + 1)) : ZF m (e - 1) (L + 1) H := by
  obtain ⟨h1, h2⟩ := h
  refine ⟨by omega, ?_⟩
  rw [show e - 1 + ((L + 1 : Nat) : Int) = e + (L : Int) by omega, show H + (L + 1) = H + 1 + L by omega]
  exact h2
set_option maxRecDepth 100000 in
set_option maxHeartbeats 4000000 in
theorem smiddle_any {va : Value} {x y : Rat} {w : World} {L H : Nat} (hT : Tab w) (ha : IsSp w va x y L H) (hk : H + 1 + L ≤ 16384) (q : Rat) (hq : (x + y) * (1 / 2) = q) :
    Calls Tryz.prog 42 #[va] w fun e w' => (∃ u, e = .returned (.tuple #[u, .int .i64 0]) ∧ IsD w' u q (L + 1) H) ∧ Below w.heap.size w w' := by
  obtain ⟨b1, p1, l1, K1, m1, e1, b2, p2, l2, K2, m2, e2, rfl, h1, n1, d1, h2, n2, d2⟩ := ha
  have HK := Lib.hid (And.intro hk (And.intro hq (And.intro hT (show H + (L + 1) ≤ 16384 by omega))))
  clear hk hq hT
  have S := ((St.start w).alloc 29 [.bool b1, .slice p1 l1 K1, .int .i64 e1, .bool b2, .slice p2 l2 K2, .int .i64 e2] (w.heap.size)).alloc 27 [.bool false, .slice none 0 0, .int .i64 0] (w.heap.size + 1)
  try simp only [List.cons_append, List.nil_append] at S
  replace n1 := n1.hold S.hold; replace n2 := n2.hold S.hold
  have c0_ := S.c6 0 rfl; have c1_ := S.c3 1 rfl
  go_enter Tryz.func42, Tryz.ntmps42
  go_wp2_with fail; clear c0_ c1_
  refine S.cl (dadd_any (HK.out.2.2.1.below S.below) ⟨b1, p1, l1, K1, m1, e1, rfl, h1, n1, d1⟩ ⟨b2, p2, l2, K2, m2, e2, rfl, h2, n2, d2⟩ HK.out.1 (x + y) rfl) ?_; clear S; rintro e w1 ⟨_, rfl, b3, p3, l3, K3, m3, e3, rfl, h3, n3, d3⟩ S H
  replace n1 := n1.hold H; replace n2 := n2.hold H
  clear H; have c0_ := S.c6 0 rfl; have c1_ := S.c3 1 rfl
  have hwr : IntKind.i64.wrap (e3 - 1) = e3 - 1 := by have := d3.out.exp; have := HK.out.1; exact wrap_int (by omega) (by omega)
  have H := S.hnew 27 [.bool b3, .slice p3 l3 K3, .int .i64 e3]
  replace S := S.al 27 [.bool b3, .slice p3 l3 K3, .int .i64 e3] (w1.heap.size)
  refine iv3 H n1 n2 n3 ?_; clear n1 n2 n3; intro n1 n2 n3
  clear H; clear c0_ c1_; have c0_ := S.c6 0 rfl; have c1_ := S.c3 1 rfl; have c2_ := S.c3 2 rfl; go_wp2_with fail; clear c0_ c1_ c2_
  refine S.cl (dmake_any (HK.out.2.2.1.below S.below) ⟨_, _, _, by rw [h3.out], n3⟩ d3.out.2.1.half HK.out.2.2.2 q (by rw [dq_halved, d3.out.2.2]; exact HK.out.2.1)) ?_; clear S; rintro e w2 ⟨_, rfl, b4, p4, l4, K4, m4, e4, rfl, h4, n4, d4⟩ S H
  refine iv3 H n1 n2 n3 ?_; clear n1 n2 n3; intro n1 n2 n3
  clear H; have c0_ := S.c6 0 rfl; have c1_ := S.c3 1 rfl; have c2_ := S.c3 2 rfl; clear c0_ c1_ c2_; have c1_ := S.c3 1 rfl
  obtain ⟨f1_0, f1_1, f1_2⟩ := S.f3 1 rfl
  have HP := S.put3 1 (.bool b4) (.slice p4 l4 K4) (.int .i64 e4) rfl rfl; have H := HP.2; replace S := HP.1; clear HP
  refine iw4 H n1 n2 n3 n4 ?_; clear n1 n2 n3 n4; intro n1 n2 n3 n4
  clear H; go_wp2_with fail; obtain ⟨d1_0, d1_1, d1_2⟩ := S.c3 1 rfl
  exact bodyPost_ret (v := .tuple #[.agg #[.bool b4, .slice p4 l4 K4, .int .i64 e4], .int .i64 0]) (by simp [results, Tryz.f42, go_sem, d1_0, d1_1, d1_2]) rfl (⟨⟨_, rfl, b4, p4, l4, K4, m4, e4, rfl, h4, n4, d4⟩, S.below⟩)
set_option maxRecDepth 100000 in
set_option maxHeartbeats 4000000 in
theorem shasr_lt_eq {va vb : Value} {x y z : Rat} {L H k1 k2 : Nat} {w : World} (ha : IsSp w va x y L H) (hb : IsRat w vb z) (hLH : H + L + 1 ≤ 16384) (hx : H + L + 1 ≤ 32 * k1) (hy : RB z k2) (hk : k1 + k2 ≤ 511) (hc : cmpR x z = -1) (hd : cmpR y z = 0) :
    Calls Tryz.prog 61 #[va, vb] w fun e w' => e = .returned (.tuple #[.bool true, .int .i64 0]) ∧ Below w.heap.size w w' := by
  obtain ⟨b1, p1, l1, K1, m1, e1, b2, p2, l2, K2, m2, e2, rfl, h1, n1, d1, h2, n2, d2⟩ := ha
  obtain ⟨bq, pq, lq, Kq, qq, jq, Jq, rfl, hbq, nq, dq1⟩ := hb
  have HK := Lib.hid (And.intro hLH (And.intro hx (And.intro hy (And.intro hk (And.intro hc hd)))))
  clear hLH hx hy hk hc hd
  have S := ((St.start w).alloc 29 [.bool b1, .slice p1 l1 K1, .int .i64 e1, .bool b2, .slice p2 l2 K2, .int .i64 e2] (w.heap.size)).alloc 34 [.bool bq, .slice pq lq Kq, .slice qq jq Jq] (w.heap.size + 1)
  try simp only [List.cons_append, List.nil_append] at S
  refine iv4 S.hold n1 n2 nq dq1 ?_; clear n1 n2 nq dq1; intro n1 n2 nq dq1
  have c0_ := S.c6 0 rfl; have c1_ := S.c3 1 rfl
  go_enter Tryz.func61, Tryz.ntmps61
  go_wp2_with fail; clear c0_ c1_
  refine S.cl (dcmp_any ⟨b1, p1, l1, K1, m1, e1, rfl, h1, n1, d1⟩ ⟨bq, pq, lq, Kq, qq, jq, Jq, rfl, hbq, nq, dq1⟩ HK.out.1 HK.out.2.1 HK.out.2.2.1 HK.out.2.2.2.1 (-1) HK.out.2.2.2.2.1) ?_; clear S; rintro e w1 rfl S H
  refine iv4 H n1 n2 nq dq1 ?_; clear n1 n2 nq dq1; intro n1 n2 nq dq1
  clear H; have c0_ := S.c6 0 rfl; have c1_ := S.c3 1 rfl; go_wp2_with fail; clear c0_ c1_
  refine S.cl (dcmp_any ⟨b2, p2, l2, K2, m2, e2, rfl, h2, n2, d2⟩ ⟨bq, pq, lq, Kq, qq, jq, Jq, rfl, hbq, nq, dq1⟩ HK.out.1 HK.out.2.1 HK.out.2.2.1 HK.out.2.2.2.1 (0) HK.out.2.2.2.2.2) ?_; clear S; rintro e w2 rfl S H
  refine iv4 H n1 n2 nq dq1 ?_; clear n1 n2 nq dq1; intro n1 n2 nq dq1
  clear H; have c0_ := S.c6 0 rfl; have c1_ := S.c3 1 rfl
  have H := S.hnew 36 [.int .i64 0, .int .i64 0]
  replace S := S.al 36 [.int .i64 0, .int .i64 0] (w2.heap.size)
  refine iv4 H n1 n2 nq dq1 ?_; clear n1 n2 nq dq1; intro n1 n2 nq dq1
  clear H; go_wp2_with fail; clear c0_ c1_
  refine S.cl (or_two S 2 rfl) ?_; clear S; rintro e w3 rfl S H
  refine iv4 H n1 n2 nq dq1 ?_; clear n1 n2 nq dq1; intro n1 n2 nq dq1
  clear H; have c0_ := S.c6 0 rfl; have c1_ := S.c3 1 rfl; go_wp2_with fail
  exact bodyPost_ret (v := .tuple #[.bool true, .int .i64 0]) (by simp [results, Tryz.f61, go_sem]) rfl (⟨rfl, S.below⟩)
set_option maxRecDepth 100000 in
set_option maxHeartbeats 4000000 in
theorem shasr_lt_gt {va vb : Value} {x y z : Rat} {L H k1 k2 : Nat} {w : World} (ha : IsSp w va x y L H) (hb : IsRat w vb z) (hLH : H + L + 1 ≤ 16384) (hx : H + L + 1 ≤ 32 * k1) (hy : RB z k2) (hk : k1 + k2 ≤ 511) (hc : cmpR x z = -1) (hd : cmpR y z = 1) :
    Calls Tryz.prog 61 #[va, vb] w fun e w' => e = .returned (.tuple #[.bool true, .int .i64 0]) ∧ Below w.heap.size w w' := by
  obtain ⟨b1, p1, l1, K1, m1, e1, b2, p2, l2, K2, m2, e2, rfl, h1, n1, d1, h2, n2, d2⟩ := ha
  obtain ⟨bq, pq, lq, Kq, qq, jq, Jq, rfl, hbq, nq, dq1⟩ := hb
  have HK := Lib.hid (And.intro hLH (And.intro hx (And.intro hy (And.intro hk (And.intro hc hd)))))
  clear hLH hx hy hk hc hd
  have S := ((St.start w).alloc 29 [.bool b1, .slice p1 l1 K1, .int .i64 e1, .bool b2, .slice p2 l2 K2, .int .i64 e2] (w.heap.size)).alloc 34 [.bool bq, .slice pq lq Kq, .slice qq jq Jq] (w.heap.size + 1)
  try simp only [List.cons_append, List.nil_append] at S
  refine iv4 S.hold n1 n2 nq dq1 ?_; clear n1 n2 nq dq1; intro n1 n2 nq dq1
  have c0_ := S.c6 0 rfl; have c1_ := S.c3 1 rfl
  go_enter Tryz.func61, Tryz.ntmps61
  go_wp2_with fail; clear c0_ c1_
  refine S.cl (dcmp_any ⟨b1, p1, l1, K1, m1, e1, rfl, h1, n1, d1⟩ ⟨bq, pq, lq, Kq, qq, jq, Jq, rfl, hbq, nq, dq1⟩ HK.out.1 HK.out.2.1 HK.out.2.2.1 HK.out.2.2.2.1 (-1) HK.out.2.2.2.2.1) ?_; clear S; rintro e w1 rfl S H
  refine iv4 H n1 n2 nq dq1 ?_; clear n1 n2 nq dq1; intro n1 n2 nq dq1
  clear H; have c0_ := S.c6 0 rfl; have c1_ := S.c3 1 rfl; go_wp2_with fail; clear c0_ c1_
  refine S.cl (dcmp_any ⟨b2, p2, l2, K2, m2, e2, rfl, h2, n2, d2⟩ ⟨bq, pq, lq, Kq, qq, jq, Jq, rfl, hbq, nq, dq1⟩ HK.out.1 HK.out.2.1 HK.out.2.2.1 HK.out.2.2.2.1 (1) HK.out.2.2.2.2.2) ?_; clear S; rintro e w2 rfl S H
  refine iv4 H n1 n2 nq dq1 ?_; clear n1 n2 nq dq1; intro n1 n2 nq dq1
  clear H; have c0_ := S.c6 0 rfl; have c1_ := S.c3 1 rfl
  have H := S.hnew 36 [.int .i64 0, .int .i64 0]
  replace S := S.al 36 [.int .i64 0, .int .i64 0] (w2.heap.size)
  refine iv4 H n1 n2 nq dq1 ?_; clear n1 n2 nq dq1; intro n1 n2 nq dq1
  clear H; go_wp2_with fail; clear c0_ c1_
  refine S.cl (or_two S 2 rfl) ?_; clear S; rintro e w3 rfl S H
  refine iv4 H n1 n2 nq dq1 ?_; clear n1 n2 nq dq1; intro n1 n2 nq dq1
  clear H; have c0_ := S.c6 0 rfl; have c1_ := S.c3 1 rfl; go_wp2_with fail
  exact bodyPost_ret (v := .tuple #[.bool true, .int .i64 0]) (by simp [results, Tryz.f61, go_sem]) rfl (⟨rfl, S.below⟩)
set_option maxRecDepth 100000 in
set_option maxHeartbeats 4000000 in
theorem shasr_eq_eq {va vb : Value} {x y z : Rat} {L H k1 k2 : Nat} {w : World} (ha : IsSp w va x y L H) (hb : IsRat w vb z) (hLH : H + L + 1 ≤ 16384) (hx : H + L + 1 ≤ 32 * k1) (hy : RB z k2) (hk : k1 + k2 ≤ 511) (hc : cmpR x z = 0) (hd : cmpR y z = 0) :
    Calls Tryz.prog 61 #[va, vb] w fun e w' => e = .returned (.tuple #[.bool true, .int .i64 0]) ∧ Below w.heap.size w w' := by
  obtain ⟨b1, p1, l1, K1, m1, e1, b2, p2, l2, K2, m2, e2, rfl, h1, n1, d1, h2, n2, d2⟩ := ha
  obtain ⟨bq, pq, lq, Kq, qq, jq, Jq, rfl, hbq, nq, dq1⟩ := hb
  have HK := Lib.hid (And.intro hLH (And.intro hx (And.intro hy (And.intro hk (And.intro hc hd)))))
  clear hLH hx hy hk hc hd
  have S := ((St.start w).alloc 29 [.bool b1, .slice p1 l1 K1, .int .i64 e1, .bool b2, .slice p2 l2 K2, .int .i64 e2] (w.heap.size)).alloc 34 [.bool bq, .slice pq lq Kq, .slice qq jq Jq] (w.heap.size + 1)
  try simp only [List.cons_append, List.nil_append] at S
  refine iv4 S.hold n1 n2 nq dq1 ?_; clear n1 n2 nq dq1; intro n1 n2 nq dq1
  have c0_ := S.c6 0 rfl; have c1_ := S.c3 1 rfl
  go_enter Tryz.func61, Tryz.ntmps61
  go_wp2_with fail; clear c0_ c1_
  refine S.cl (dcmp_any ⟨b1, p1, l1, K1, m1, e1, rfl, h1, n1, d1⟩ ⟨bq, pq, lq, Kq, qq, jq, Jq, rfl, hbq, nq, dq1⟩ HK.out.1 HK.out.2.1 HK.out.2.2.1 HK.out.2.2.2.1 (0) HK.out.2.2.2.2.1) ?_; clear S; rintro e w1 rfl S H
  refine iv4 H n1 n2 nq dq1 ?_; clear n1 n2 nq dq1; intro n1 n2 nq dq1
  clear H; have c0_ := S.c6 0 rfl; have c1_ := S.c3 1 rfl; go_wp2_with fail; clear c0_ c1_
  refine S.cl (dcmp_any ⟨b2, p2, l2, K2, m2, e2, rfl, h2, n2, d2⟩ ⟨bq, pq, lq, Kq, qq, jq, Jq, rfl, hbq, nq, dq1⟩ HK.out.1 HK.out.2.1 HK.out.2.2.1 HK.out.2.2.2.1 (0) HK.out.2.2.2.2.2) ?_; clear S; rintro e w2 rfl S H
  refine iv4 H n1 n2 nq dq1 ?_; clear n1 n2 nq dq1; intro n1 n2 nq dq1
  clear H; have c0_ := S.c6 0 rfl; have c1_ := S.c3 1 rfl
  have H := S.hnew 36 [.int .i64 0, .int .i64 0]
  replace S := S.al 36 [.int .i64 0, .int .i64 0] (w2.heap.size)
  refine iv4 H n1 n2 nq dq1 ?_; clear n1 n2 nq dq1; intro n1 n2 nq dq1
  clear H; go_wp2_with fail; clear c0_ c1_
  refine S.cl (or_two S 2 rfl) ?_; clear S; rintro e w3 rfl S H
  refine iv4 H n1 n2 nq dq1 ?_; clear n1 n2 nq dq1; intro n1 n2 nq dq1
  clear H; have c0_ := S.c6 0 rfl; have c1_ := S.c3 1 rfl; go_wp2_with fail
  exact bodyPost_ret (v := .tuple #[.bool true, .int .i64 0]) (by simp [results, Tryz.f61, go_sem]) rfl (⟨rfl, S.below⟩)
set_option maxRecDepth 100000 in
set_option maxHeartbeats 4000000 in
theorem shasr_eq_gt {va vb : Value} {x y z : Rat} {L H k1 k2 : Nat} {w : World} (ha : IsSp w va x y L H) (hb : IsRat w vb z) (hLH : H + L + 1 ≤ 16384) (hx : H + L + 1 ≤ 32 * k1) (hy : RB z k2) (hk : k1 + k2 ≤ 511) (hc : cmpR x z = 0) (hd : cmpR y z = 1) :
    Calls Tryz.prog 61 #[va, vb] w fun e w' => e = .returned (.tuple #[.bool true, .int .i64 0]) ∧ Below w.heap.size w w' := by
  obtain ⟨b1, p1, l1, K1, m1, e1, b2, p2, l2, K2, m2, e2, rfl, h1, n1, d1, h2, n2, d2⟩ := ha
  obtain ⟨bq, pq, lq, Kq, qq, jq, Jq, rfl, hbq, nq, dq1⟩ := hb
  have HK := Lib.hid (And.intro hLH (And.intro hx (And.intro hy (And.intro hk (And.intro hc hd)))))
  clear hLH hx hy hk hc hd
  have S := ((St.start w).alloc 29 [.bool b1, .slice p1 l1 K1, .int .i64 e1, .bool b2, .slice p2 l2 K2, .int .i64 e2] (w.heap.size)).alloc 34 [.bool bq, .slice pq lq Kq, .slice qq jq Jq] (w.heap.size + 1)
  try simp only [List.cons_append, List.nil_append] at S
  refine iv4 S.hold n1 n2 nq dq1 ?_; clear n1 n2 nq dq1; intro n1 n2 nq dq1
  have c0_ := S.c6 0 rfl; have c1_ := S.c3 1 rfl
  go_enter Tryz.func61, Tryz.ntmps61
  go_wp2_with fail; clear c0_ c1_
  refine S.cl (dcmp_any ⟨b1, p1, l1, K1, m1, e1, rfl, h1, n1, d1⟩ ⟨bq, pq, lq, Kq, qq, jq, Jq, rfl, hbq, nq, dq1⟩ HK.out.1 HK.out.2.1 HK.out.2.2.1 HK.out.2.2.2.1 (0) HK.out.2.2.2.2.1) ?_; clear S; rintro e w1 rfl S H
  refine iv4 H n1 n2 nq dq1 ?_; clear n1 n2 nq dq1; intro n1 n2 nq dq1
  clear H; have c0_ := S.c6 0 rfl; have c1_ := S.c3 1 rfl; go_wp2_with fail; clear c0_ c1_
  refine S.cl (dcmp_any ⟨b2, p2, l2, K2, m2, e2, rfl, h2, n2, d2⟩ ⟨bq, pq, lq, Kq, qq, jq, Jq, rfl, hbq, nq, dq1⟩ HK.out.1 HK.out.2.1 HK.out.2.2.1 HK.out.2.2.2.1 (1) HK.out.2.2.2.2.2) ?_; clear S; rintro e w2 rfl S H
  refine iv4 H n1 n2 nq dq1 ?_; clear n1 n2 nq dq1; intro n1 n2 nq dq1
  clear H; have c0_ := S.c6 0 rfl; have c1_ := S.c3 1 rfl
  have H := S.hnew 36 [.int .i64 0, .int .i64 0]
  replace S := S.al 36 [.int .i64 0, .int .i64 0] (w2.heap.size)
  refine iv4 H n1 n2 nq dq1 ?_; clear n1 n2 nq dq1; intro n1 n2 nq dq1
  clear H; go_wp2_with fail; clear c0_ c1_
  refine S.cl (or_two S 2 rfl) ?_; clear S; rintro e w3 rfl S H
  refine iv4 H n1 n2 nq dq1 ?_; clear n1 n2 nq dq1; intro n1 n2 nq dq1
  clear H; have c0_ := S.c6 0 rfl; have c1_ := S.c3 1 rfl; go_wp2_with fail
  exact bodyPost_ret (v := .tuple #[.bool true, .int .i64 0]) (by simp [results, Tryz.f61, go_sem]) rfl (⟨rfl, S.below⟩)
set_option maxRecDepth 100000 in
set_option maxHeartbeats 4000000 in
theorem stext_lit {va : Value} {x y : Rat} {w : World} {L H : Nat} (ha : IsSp w va x y L H) (hLH : H + L + 1 ≤ 16384) (s t : ByteArray) (hx : x.num.natAbs < maxN ∧ x.den < maxN) (hy : y.num.natAbs < maxN ∧ y.den < maxN) (hs : IsRText (bs s) x) (ht : IsRText (bs t) y) (ls : s.size ≤ 1000) (lt : t.size ≤ 1000) :
    Calls Tryz.prog 62 #[va] w fun e w' => e = .returned (.string (s ++ ⟨#[46, 46]⟩ ++ t)) ∧ Below w.heap.size w w' := by
  obtain ⟨b1, p1, l1, K1, m1, e1, b2, p2, l2, K2, m2, e2, rfl, h1, n1, d1, h2, n2, d2⟩ := ha
  have HK := Lib.hid (And.intro hLH (And.intro hx (And.intro hy (And.intro hs ht))))
  clear hLH hx hy hs ht
  have S := (St.start w).alloc 29 [.bool b1, .slice p1 l1 K1, .int .i64 e1, .bool b2, .slice p2 l2 K2, .int .i64 e2] (w.heap.size)
  try simp only [List.nil_append] at S
  replace n1 := n1.hold S.hold; replace n2 := n2.hold S.hold
  have c0_ := S.c6 0 rfl
  go_enter Tryz.func62, Tryz.ntmps62
  go_wp2_with fail; clear c0_
  refine S.cl (dratio_any ⟨b1, p1, l1, K1, m1, e1, rfl, h1, n1, d1⟩ HK.out.1) ?_; clear S; rintro e w1 ⟨_, rfl, bA, pA, lA, KA, qA, jA, JA, rfl, hA, nA, dA⟩ S H
  replace n1 := n1.hold H; replace n2 := n2.hold H
  clear H; have c0_ := S.c6 0 rfl
  have H := S.hnew 34 [.bool bA, .slice pA lA KA, .slice qA jA JA]
  replace S := S.al 34 [.bool bA, .slice pA lA KA, .slice qA jA JA] (w1.heap.size)
  refine iv4 H n1 n2 nA dA ?_; clear n1 n2 nA dA; intro n1 n2 nA dA
  clear H; clear c0_; have c0_ := S.c6 0 rfl; have c1_ := S.c3 1 rfl; go_wp2_with fail; clear c0_ c1_
  refine S.cl (dratio_any ⟨b2, p2, l2, K2, m2, e2, rfl, h2, n2, d2⟩ HK.out.1) ?_; clear S; rintro e w2 ⟨_, rfl, bB, pB, lB, KB, qB, jB, JB, rfl, hB, nB, dB⟩ S H
  refine iv4 H n1 n2 nA dA ?_; clear n1 n2 nA dA; intro n1 n2 nA dA
  clear H; have c0_ := S.c6 0 rfl; have c1_ := S.c3 1 rfl
  have H := S.hnew 34 [.bool bB, .slice pB lB KB, .slice qB jB JB]
  replace S := S.al 34 [.bool bB, .slice pB lB KB, .slice qB jB JB] (w2.heap.size)
  refine iv6 H n1 n2 nA dA nB dB ?_; clear n1 n2 nA dA nB dB; intro n1 n2 nA dA nB dB
  clear H; clear c0_ c1_; have c1_ := S.c3 1 rfl; have c2_ := S.c3 2 rfl
  have H := S.hnew 36 [.int .i64 0, .int .i64 0]
  replace S := S.al 36 [.int .i64 0, .int .i64 0] (w2.heap.size + 1)
  refine iv6 H n1 n2 nA dA nB dB ?_; clear n1 n2 nA dA nB dB; intro n1 n2 nA dA nB dB
  clear H; go_wp2_with fail; clear c1_ c2_
  refine S.cl (or_two S 3 rfl) ?_; clear S; rintro e w3 rfl S H
  refine iv6 H n1 n2 nA dA nB dB ?_; clear n1 n2 nA dA nB dB; intro n1 n2 nA dA nB dB
  clear H; have c1_ := S.c3 1 rfl; have c2_ := S.c3 2 rfl
  go_upto_region 5 with fail
  clear c1_ c2_
  have HH := Hold.drew w3
  refine iv6 HH n1 n2 nA dA nB dB ?_; clear n1 n2 nA dA nB dB; intro n1 n2 nA dA nB dB
  replace S := S.drew
  refine wp_region_held_drew (S := fun W => W.cell? ⟨w1.heap.size, 0, none⟩ = some (.bool bA) ∧ W.cell? ⟨w1.heap.size, 1, none⟩ = some (.slice pA lA KA) ∧ W.cell? ⟨w1.heap.size, 2, none⟩ = some (.slice qA jA JA) ∧ W.cell? ⟨w2.heap.size, 0, none⟩ = some (.bool bB) ∧ W.cell? ⟨w2.heap.size, 1, none⟩ = some (.slice pB lB KB) ∧ W.cell? ⟨w2.heap.size, 2, none⟩ = some (.slice qB jB JB)) (by kernel_rfl) (con3 (S.c3 1 rfl) (S.c3 2 rfl)) (fun hS => ?_)
  generalize w3.drew = w4 at S n1 n2 nA dA nB dB HH hS ⊢
  refine tkl 0 hS ?_
  refine tkl 3 hS ?_
  refine rd 1 fun KK hKK => ?_
  go_simp; clear hS
  refine S.cl (rtext_lit ⟨bA, pA, lA, KA, qA, jA, JA, rfl, hA, nA, dA⟩ s HK.out.2.1 HK.out.2.2.2.1) ?_; clear S; rintro e w5 rfl S H
  refine iv7 H n1 n2 nA dA nB dB HH ?_; clear n1 n2 nA dA nB dB HH H; intro n1 n2 nA dA nB dB HH
  go_wp2_with fail
  refine ho hKK (con3 (S.c3 1 rfl) (S.c3 2 rfl)) fun hS => ?_
  clear hKK KK
  refine tkl 2 hS ?_
  refine rd 4 fun KK hKK => ?_
  go_simp; clear hS
  refine S.cl (rtext_lit ⟨bB, pB, lB, KB, qB, jB, JB, rfl, hB, nB, dB⟩ t HK.out.2.2.1 HK.out.2.2.2.2) ?_; clear S; rintro e w6 rfl S H
  refine iv7 H n1 n2 nA dA nB dB HH ?_; clear n1 n2 nA dA nB dB HH H; intro n1 n2 nA dA nB dB HH
  go_wp2_with fail
  refine ho hKK (con3 (S.c3 1 rfl) (S.c3 2 rfl)) fun hS => ?_
  clear hKK KK
  refine tkl 5 hS ?_
  refine rd 6 fun KK hKK => ?_
  go_simp
  refine ho hKK hS fun hS => ?_
  clear hKK KK
  refine wpAnyH_done (by kernel_rfl) ?_ _
  clear hS HH; have c1_ := S.c3 1 rfl; have c2_ := S.c3 2 rfl; go_wp2_with fail
  exact bodyPost_ret (v := .string (s ++ ⟨#[46, 46]⟩ ++ t)) (by simp [results, Tryz.f62, go_sem]) rfl (⟨rfl, S.below⟩)
set_option maxRecDepth 100000 in
set_option maxHeartbeats 4000000 in
theorem snear_of {va : Value} {a yl yh : Rat} {w : World} {L H : Nat} (n : Int) (hT : Tab w) (ha : IsRat w va a)
    (hl : ∀ (va : Value) (w : World), Tab w → IsRat w va a → Calls Tryz.prog 95 #[va, .int .i64 n, .bool false] w fun ev w' => (∃ u, ev = .returned (.tuple #[u, .int .i64 0]) ∧ IsD w' u yl L H) ∧ Below w.heap.size w w')
    (hh : ∀ (va : Value) (w : World), Tab w → IsRat w va a → Calls Tryz.prog 95 #[va, .int .i64 n, .bool true] w fun ev w' => (∃ u, ev = .returned (.tuple #[u, .int .i64 0]) ∧ IsD w' u yh L H) ∧ Below w.heap.size w w') :
    Calls Tryz.prog 46 #[va, .int .i64 n] w fun e w' => (∃ u, e = .returned (.tuple #[u, .int .i64 0]) ∧ IsSp w' u yl yh L H) ∧ Below w.heap.size w w' := by
  obtain ⟨bq, pq, lq, Kq, qq, jq, Jq, rfl, hbq, nq, dq1⟩ := ha
  have HK := Lib.hid hT
  have HL := Lib.hid hl
  have HU := Lib.hid hh
  clear hT hl hh
  have S := ((St.start w).alloc 34 [.bool bq, .slice pq lq Kq, .slice qq jq Jq] (w.heap.size)).alloc 29 [.bool false, .slice none 0 0, .int .i64 0, .bool false, .slice none 0 0, .int .i64 0] (w.heap.size + 1)
  try simp only [List.cons_append, List.nil_append] at S
  replace nq := nq.hold S.hold; replace dq1 := dq1.hold S.hold
  have c0_ := S.c3 0 rfl; have c1_ := S.c6 1 rfl
  go_enter Tryz.func46, Tryz.ntmps46
  go_wp2_with fail; clear c0_ c1_
  refine S.cl (HL.out _ _ (HK.out.below S.below) ⟨bq, pq, lq, Kq, qq, jq, Jq, rfl, hbq, nq, dq1⟩) ?_; clear S; rintro e w1 ⟨_, rfl, b3, p3, l3, K3, m3, e3, rfl, h3, n3, d3⟩ S H
  replace nq := nq.hold H; replace dq1 := dq1.hold H
  clear H; have c0_ := S.c3 0 rfl; have c1_ := S.c6 1 rfl
  have H := S.hnew 27 [.bool b3, .slice p3 l3 K3, .int .i64 e3]
  replace S := S.al 27 [.bool b3, .slice p3 l3 K3, .int .i64 e3] (w1.heap.size)
  refine iv3 H nq dq1 n3 ?_; clear nq dq1 n3; intro nq dq1 n3
  clear H; clear c0_ c1_; have c0_ := S.c3 0 rfl; have c1_ := S.c6 1 rfl; have c2_ := S.c3 2 rfl; go_wp2_with fail; clear c0_ c1_ c2_
  refine S.cl (HU.out _ _ (HK.out.below S.below) ⟨bq, pq, lq, Kq, qq, jq, Jq, rfl, hbq, nq, dq1⟩) ?_; clear S; rintro e w2 ⟨_, rfl, b4, p4, l4, K4, m4, e4, rfl, h4, n4, d4⟩ S H
  refine iv3 H nq dq1 n3 ?_; clear nq dq1 n3; intro nq dq1 n3
  clear H; have c0_ := S.c3 0 rfl; have c1_ := S.c6 1 rfl; have c2_ := S.c3 2 rfl
  have H := S.hnew 27 [.bool b4, .slice p4 l4 K4, .int .i64 e4]
  replace S := S.al 27 [.bool b4, .slice p4 l4 K4, .int .i64 e4] (w2.heap.size)
  refine iv4 H nq dq1 n3 n4 ?_; clear nq dq1 n3 n4; intro nq dq1 n3 n4
  clear H; clear c0_ c1_ c2_; have c0_ := S.c3 0 rfl; have c1_ := S.c6 1 rfl; have c2_ := S.c3 2 rfl; have c3_ := S.c3 3 rfl
  go_upto_region 3 with fail
  clear c0_ c1_ c2_ c3_
  generalize (w2.alloc (.cells #[.bool b4, .slice p4 l4 K4, .int .i64 e4] 27)) = w3 at S nq dq1 n3 n4 ⊢
  have HH := (Hold.drew w3).to32
  refine iw4 HH nq dq1 n3 n4 ?_; clear nq dq1 n3 n4; intro nq dq1 n3 n4
  replace S := S.drew
  refine wp_region_held_drew (S := fun W => W.cell? ⟨w1.heap.size, 0, none⟩ = some (.bool b3) ∧ W.cell? ⟨w1.heap.size, 1, none⟩ = some (.slice p3 l3 K3) ∧ W.cell? ⟨w1.heap.size, 2, none⟩ = some (.int .i64 e3) ∧ W.cell? ⟨w2.heap.size, 0, none⟩ = some (.bool b4) ∧ W.cell? ⟨w2.heap.size, 1, none⟩ = some (.slice p4 l4 K4) ∧ W.cell? ⟨w2.heap.size, 2, none⟩ = some (.int .i64 e4)) (by kernel_rfl) (con3 (S.c3 2 rfl) (S.c3 3 rfl)) (fun hS => ?_)
  generalize w3.drew = w4 at S nq dq1 n3 n4 HH hS ⊢
  refine tk 0 hS ?_
  refine tk 1 hS ?_
  refine tk 2 hS ?_
  refine tk 3 hS ?_
  refine rd 4 fun KK hKK => ?_
  go_simp; clear hS
  have H := S.hnew 36 [.int .i64 0, .int .i64 0]
  replace S := S.al 36 [.int .i64 0, .int .i64 0] (w4.heap.size)
  refine iv4 H nq dq1 n3 n4 ?_; clear nq dq1 n3 n4; intro nq dq1 n3 n4; replace HH := HH.trans H.to32; clear H
  refine ho hKK (con3 (S.c3 2 rfl) (S.c3 3 rfl)) fun hS => ?_
  generalize (w4.alloc (.cells #[.int .i64 0, .int .i64 0] 36)) = w5 at S nq dq1 n3 n4 HH hS ⊢
  clear hKK KK
  refine rd 5 fun KK hKK => ?_
  go_simp; clear hS
  refine S.cl (or_two S 4 rfl) ?_; clear S; rintro e w6 rfl S H
  refine iv4 H nq dq1 n3 n4 ?_; clear nq dq1 n3 n4; intro nq dq1 n3 n4; replace HH := HH.trans H.to32; clear H
  go_wp2_with fail
  refine ho hKK (con3 (S.c3 2 rfl) (S.c3 3 rfl)) fun hS => ?_
  clear hKK KK
  refine rd 6 fun KK hKK => ?_
  go_simp; clear hS
  refine S.cl (sbetween_any ⟨b3, p3, l3, K3, m3, e3, rfl, h3, n3, d3⟩ ⟨b4, p4, l4, K4, m4, e4, rfl, h4, n4, d4⟩) ?_; clear S; rintro e w7 ⟨_, rfl, b5, p5, l5, K5, m5, e5, b6, p6, l6, K6, m6, e6, rfl, h5, n5, d5, h6, n6, d6⟩ S H
  refine iv4 H nq dq1 n3 n4 ?_; clear nq dq1 n3 n4; intro nq dq1 n3 n4; replace HH := HH.trans H.to32; clear H
  go_wp2_with fail
  refine ho hKK (con3 (S.c3 2 rfl) (S.c3 3 rfl)) fun hS => ?_
  clear hKK KK
  refine tk 7 hS ?_
  refine tk 8 hS ?_
  refine rd 9 fun KK hKK => ?_
  obtain ⟨c0, c1, c2, c3, c4, c5⟩ := S.c6 1 rfl; obtain ⟨f0, f1, f2, f3, f4, f5⟩ := S.f6 1 rfl
  go_simp; clear hS c0 f0 c1 f1 c2 f2 c3 f3 c4 f4 c5 f5
  have HP := S.put6 1 (.bool b5) (.slice p5 l5 K5) (.int .i64 e5) (.bool b6) (.slice p6 l6 K6) (.int .i64 e6) rfl rfl; have H := HP.2; replace S := HP.1; clear HP
  refine iw7 H nq dq1 n3 n4 n5 n6 HH ?_; clear nq dq1 n3 n4 n5 n6 HH H; intro nq dq1 n3 n4 n5 n6 HH
  refine ho hKK (con3 (S.c3 2 rfl) (S.c3 3 rfl)) fun hS => ?_
  generalize ((((((w7.setCell ⟨w.heap.size + 1, 0, none⟩ (.bool b5)).setCell ⟨w.heap.size + 1, 1, none⟩ (.slice p5 l5 K5)).setCell ⟨w.heap.size + 1, 2, none⟩ (.int .i64 e5)).setCell ⟨w.heap.size + 1, 3, none⟩ (.bool b6)).setCell ⟨w.heap.size + 1, 4, none⟩ (.slice p6 l6 K6)).setCell ⟨w.heap.size + 1, 5, none⟩ (.int .i64 e6)) = w8 at S nq dq1 n3 n4 n5 n6 HH hS ⊢
  clear hKK KK
  refine rd 10 fun KK hKK => ?_
  go_simp
  refine ho hKK hS fun hS => ?_
  clear hKK KK
  refine wpAnyH_done (by kernel_rfl) ?_ _
  clear hS HH; have c0_ := S.c3 0 rfl; have c1_ := S.c6 1 rfl; have c2_ := S.c3 2 rfl; have c3_ := S.c3 3 rfl; go_wp2_with fail; obtain ⟨d1_0, d1_1, d1_2, d1_3, d1_4, d1_5⟩ := S.c6 1 rfl
  exact bodyPost_ret (v := .tuple #[.agg #[.bool b5, .slice p5 l5 K5, .int .i64 e5, .bool b6, .slice p6 l6 K6, .int .i64 e6], .int .i64 0]) (by simp [results, Tryz.f46, go_sem, d1_0, d1_1, d1_2, d1_3, d1_4, d1_5]) rfl (⟨⟨_, rfl, b5, p5, l5, K5, m5, e5, b6, p6, l6, K6, m6, e6, rfl, h5, n5, d5, h6, n6, d6⟩, S.below⟩)
end Go.Proofs.YtcdmojefheipoaaGreatDoor
