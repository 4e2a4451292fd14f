/-
  What the statement stands on.
-/
import Derived.Test.YtcfgefbkeeedgaaGreatM21
import Derived.Test.YtcfgefbkeeedgaaGreatM29
namespace Go.Proofs.YtcfgefbkeeedgaaGreat
open Go.RowKit
theorem bs_add (s t : ByteArray) : bs (s ++ t) = bs s ++ bs t := by simp [bs]
def IsRText (l : List Nat) (x : Rat) : Prop := (x.den = 1 ∧ IsIText l x.num) ∨ (x.den ≠ 1 ∧ ∃ t u, l = t ++ 47 :: u ∧ IsIText t x.num ∧ IsText u x.den)
theorem itext_len {l : List Nat} {x : Int} (h : IsIText l x) (hx : x.natAbs < maxN) : l.length ≤ 5464 := by
  rcases h with ⟨_, t, rfl, h⟩ | ⟨_, h⟩
  · have := text_len h hx; simp; omega
  · have := text_len h hx; omega
theorem cmpI_one (m : Nat) (h : m ≠ 0) : (cmpI (m : Int) ((1 : Nat) : Int) == 0) = decide (m = 1) := by
  rw [Bool.eq_iff_iff]
  simp [cmpI]
  split
  · omega
  · split
    · omega
    · omega
theorem wtext_sz {va : Value} {x : Int} {w : World} (ha : IsInt w va x) (hx : x.natAbs < maxN) :
    Calls Tryz.prog 29 #[va] w fun e w' => (∃ s, e = .returned (.string s) ∧ s.size ≤ 5464 ∧ Hid (IsIText (bs s) x)) ∧ Below w.heap.size w w' :=
  (wtext_any ha hx).mono fun _ _ h => ⟨⟨h.1.choose, h.1.choose_spec.1, by rw [← bs_len]; exact itext_len h.1.choose_spec.2 hx, h.1.choose_spec.2⟩, h.2⟩
theorem text_sz {va : Value} {x : Nat} {w : World} (ha : IsNat w va x) (hx : x < maxN) :
    Calls Tryz.prog 30 #[va] w fun e w' => (∃ s, e = .returned (.string s) ∧ s.size ≤ 5463 ∧ Hid (IsText (bs s) x)) ∧ Below w.heap.size w w' :=
  (text_any ha hx).mono fun _ _ h => ⟨⟨h.1.choose, h.1.choose_spec.1, by rw [← bs_len]; exact text_len h.1.choose_spec.2 hx, h.1.choose_spec.2⟩, h.2⟩
set_option maxRecDepth 100000 in
set_option maxHeartbeats 4000000 in
theorem rtext_any {va : Value} {x : Rat} {w : World} (ha : IsRat w va x) (hx : x.num.natAbs < maxN ∧ x.den < maxN) :
    Calls Tryz.prog 9 #[va] w fun e w' => (∃ s, e = .returned (.string s) ∧ IsRText (bs s) x) ∧ Below w.heap.size w w' := by
  obtain ⟨b1, p1, l1, K1, q1, j1, J1, rfl, hb1, n1, d1⟩ := ha
  obtain ⟨c, hc⟩ : ∃ c, cmpI (x.den : Int) ((1 : Nat) : Int) = c := ⟨_, rfl⟩
  have HX := Lib.hid hx
  have HC := Lib.hid hc
  have h1 := cmpI_one x.den x.den_nz
  rw [hc] at h1
  clear hx hc
  by_cases hd : x.den = 1
  · have hcz : (c == 0) = true := by rw [h1]; exact decide_eq_true hd
    have HD := Lib.hid hd
    clear h1 hd
    have S := (St.start w).alloc 39 [.bool b1, .slice p1 l1 K1, .slice q1 j1 J1] (w.heap.size)
    try simp only [List.nil_append] at S
    replace n1 := n1.hold S.hold; replace d1 := d1.hold S.hold
    obtain ⟨c0_0, c0_1, c0_2⟩ := S.c3 0 rfl
    go_enter Tryz.func9, Tryz.ntmps9
    go_upto_region 1 with fail
    clear c0_0 c0_1 c0_2
    generalize (w.alloc (.cells #[.bool b1, .slice p1 l1 K1, .slice q1 j1 J1] 39)) = w1 at S n1 d1 ⊢
    have HH := Hold.drew w1
    replace n1 := n1.hold HH; replace d1 := d1.hold HH
    replace S := S.drew
    refine wp_region_held_drew (S := fun W => W.cell? ⟨w.heap.size, 0, none⟩ = some (.bool b1) ∧ W.cell? ⟨w.heap.size, 1, none⟩ = some (.slice p1 l1 K1) ∧ W.cell? ⟨w.heap.size, 2, none⟩ = some (.slice q1 j1 J1)) (by kernel_rfl) (S.c3 0 rfl) (fun hS => ?_)
    generalize w1.drew = w2 at S n1 d1 HH hS ⊢
    refine tkl 0 hS ?_
    refine tkl 1 hS ?_
    refine rd 2 fun KK hKK => ?_
    go_simp; clear hS
    refine (S.call (of_any 1 _ (by decide))).mono ?_
    clear S
    rintro e w3 ⟨⟨vo, rfl, no⟩, S, H⟩
    replace n1 := n1.hold H; replace d1 := d1.hold H; replace HH := HH.trans H; clear H
    go_wp2_with fail
    refine ho hKK (S.c3 0 rfl) fun hS => ?_
    clear hKK KK
    refine rd 3 fun KK hKK => ?_
    go_simp; clear hS
    refine (S.call (compare_nat d1 no HX.out.2 (lt_maxN (by decide)) HC.out)).mono ?_
    clear S
    rintro e w4 ⟨rfl, S, H⟩
    refine iv3 H n1 d1 no ?_; clear n1 d1 no; intro n1 d1 no; replace HH := HH.trans H; clear H
    go_wp2_with fail
    refine ho hKK (S.c3 0 rfl) fun hS => ?_
    clear hKK KK
    refine tkl 4 hS ?_
    refine wpAnyH_done (by kernel_rfl) ?_ _
    clear hS HH; obtain ⟨c0_0, c0_1, c0_2⟩ := S.c3 0 rfl; go_wp2_with fail; clear c0_0 c0_1 c0_2
    refine (S.call (wtext_any ⟨_, _, _, by rw [hb1.out], n1⟩ HX.out.1)).mono ?_
    clear S
    rintro e w5 ⟨⟨s, rfl, hs⟩, S, H⟩
    refine iv3 H n1 d1 no ?_; clear n1 d1 no; intro n1 d1 no
    clear H; obtain ⟨c0_0, c0_1, c0_2⟩ := S.c3 0 rfl; go_wp2_with fail
    exact bodyPost_ret (v := .string s) (by simp [results, Tryz.f9, go_sem]) rfl (⟨⟨s, rfl, .inl ⟨HD.out, hs⟩⟩, S.below⟩)
  · have hcz : (c == 0) = false := by rw [h1]; exact decide_eq_false hd
    have HD := Lib.hid hd
    clear h1 hd
    have S := (St.start w).alloc 39 [.bool b1, .slice p1 l1 K1, .slice q1 j1 J1] (w.heap.size)
    try simp only [List.nil_append] at S
    replace n1 := n1.hold S.hold; replace d1 := d1.hold S.hold
    obtain ⟨c0_0, c0_1, c0_2⟩ := S.c3 0 rfl
    go_enter Tryz.func9, Tryz.ntmps9
    go_upto_region 1 with fail
    clear c0_0 c0_1 c0_2
    generalize (w.alloc (.cells #[.bool b1, .slice p1 l1 K1, .slice q1 j1 J1] 39)) = w1 at S n1 d1 ⊢
    have HH := Hold.drew w1
    replace n1 := n1.hold HH; replace d1 := d1.hold HH
    replace S := S.drew
    refine wp_region_held_drew (S := fun W => W.cell? ⟨w.heap.size, 0, none⟩ = some (.bool b1) ∧ W.cell? ⟨w.heap.size, 1, none⟩ = some (.slice p1 l1 K1) ∧ W.cell? ⟨w.heap.size, 2, none⟩ = some (.slice q1 j1 J1)) (by kernel_rfl) (S.c3 0 rfl) (fun hS => ?_)
    generalize w1.drew = w2 at S n1 d1 HH hS ⊢
    refine tkl 0 hS ?_
    refine tkl 1 hS ?_
    refine rd 2 fun KK hKK => ?_
    go_simp; clear hS
    refine (S.call (of_any 1 _ (by decide))).mono ?_
    clear S
    rintro e w3 ⟨⟨vo, rfl, no⟩, S, H⟩
    replace n1 := n1.hold H; replace d1 := d1.hold H; replace HH := HH.trans H; clear H
    go_wp2_with fail
    refine ho hKK (S.c3 0 rfl) fun hS => ?_
    clear hKK KK
    refine rd 3 fun KK hKK => ?_
    go_simp; clear hS
    refine (S.call (compare_nat d1 no HX.out.2 (lt_maxN (by decide)) HC.out)).mono ?_
    clear S
    rintro e w4 ⟨rfl, S, H⟩
    refine iv3 H n1 d1 no ?_; clear n1 d1 no; intro n1 d1 no; replace HH := HH.trans H; clear H
    go_wp2_with fail
    refine ho hKK (S.c3 0 rfl) fun hS => ?_
    clear hKK KK
    refine tkl 4 hS ?_
    refine wpAnyH_done (by kernel_rfl) ?_ _
    clear hS HH; obtain ⟨c0_0, c0_1, c0_2⟩ := S.c3 0 rfl
    go_upto_region 3 with fail
    clear c0_0 c0_1 c0_2
    have HH := Hold.drew w4
    refine iv3 HH n1 d1 no ?_; clear n1 d1 no; intro n1 d1 no
    replace S := S.drew
    refine wp_region_held_drew (S := fun W => W.cell? ⟨w.heap.size, 0, none⟩ = some (.bool b1) ∧ W.cell? ⟨w.heap.size, 1, none⟩ = some (.slice p1 l1 K1) ∧ W.cell? ⟨w.heap.size, 2, none⟩ = some (.slice q1 j1 J1)) (by kernel_rfl) (S.c3 0 rfl) (fun hS => ?_)
    generalize w4.drew = w5 at S n1 d1 no HH hS ⊢
    refine tkl 0 hS ?_
    refine tkl 1 hS ?_
    refine tkl 4 hS ?_
    refine tkl 5 hS ?_
    refine rd 2 fun KK hKK => ?_
    go_simp; clear hS
    refine (S.call (wtext_sz ⟨_, _, _, by rw [hb1.out], n1⟩ HX.out.1)).mono ?_
    clear S
    rintro e w6 ⟨⟨s, rfl, ls, hs⟩, S, H⟩
    refine iv3 H n1 d1 no ?_; clear n1 d1 no; intro n1 d1 no; replace HH := HH.trans H; clear H
    go_wp2_with fail
    refine ho hKK (S.c3 0 rfl) fun hS => ?_
    clear hKK KK
    refine tkl 3 hS ?_
    refine rd 6 fun KK hKK => ?_
    go_simp; clear hS
    refine (S.call (text_sz d1 HX.out.2)).mono ?_
    clear S
    rintro e w7 ⟨⟨t, rfl, lt, ht⟩, S, H⟩
    refine iv3 H n1 d1 no ?_; clear n1 d1 no; intro n1 d1 no; replace HH := HH.trans H; clear H
    go_wp2_with fail
    refine ho hKK (S.c3 0 rfl) fun hS => ?_
    clear hKK KK
    refine tkl 7 hS ?_
    refine rd 8 fun KK hKK => ?_
    go_simp
    refine ho hKK hS fun hS => ?_
    clear hKK KK
    refine wpAnyH_done (by kernel_rfl) ?_ _
    clear hS HH; obtain ⟨c0_0, c0_1, c0_2⟩ := S.c3 0 rfl; go_wp2_with fail
    exact bodyPost_ret (v := .string (s ++ ⟨#[47]⟩ ++ t)) (by simp [results, Tryz.f9, go_sem]) rfl (⟨⟨_, rfl, .inr ⟨HD.out, _, _, by rw [bs_add, bs_add]; exact List.append_assoc _ _ _, hs.out, ht.out⟩⟩, S.below⟩)
end Go.Proofs.YtcfgefbkeeedgaaGreat
