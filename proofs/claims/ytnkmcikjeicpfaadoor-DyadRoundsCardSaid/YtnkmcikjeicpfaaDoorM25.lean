/-
  ratio.Text. ratio.Text of what is known. Some small numbers of layer 5. girdlelaw05.halves: some small numbers. girdlelaw05.DyadRounds, as a walk: whatever the number, the bits and the way, it returns true.
-/
import Derived.Test.YtnkmcikjeicpfaaDoorM19
import Derived.Test.YtnkmcikjeicpfaaDoorM20
import Derived.Test.YtnkmcikjeicpfaaDoorM21
import Derived.Test.YtnkmcikjeicpfaaDoorM24

namespace Go.Proofs.YtnkmcikjeicpfaaDoor
open Go.RowKit

theorem bs_add (s t : ByteArray) : bs (s ++ t) = bs s ++ bs t := by simp [bs]
/-- How a ratio is written. -/
def IsRText (l : List Nat) (x : Rat) : Prop := (x.den = 1 ∧ IsIText l x.num) ∨ (x.den ≠ 1 ∧ ∃ t u, l = t ++ 47 :: u ∧ IsIText t x.num ∧ IsText u x.den)
theorem itext_len {l : List Nat} {x : Int} (h : IsIText l x) (hx : x.natAbs < maxN) : l.length ≤ 5464 := by
  rcases h with ⟨_, t, rfl, h⟩ | ⟨_, h⟩
  · have := text_len h hx; simp; omega
  · have := text_len h hx; omega
theorem cmpI_one (m : Nat) (h : m ≠ 0) : (cmpI (m : Int) ((1 : Nat) : Int) == 0) = decide (m = 1) := by
  rw [Bool.eq_iff_iff]
  simp [cmpI]
  split
  · omega
  · split
    · omega
    · omega

theorem wtext_sz {va : Value} {x : Int} {w : World} (ha : IsInt w va x) (hx : x.natAbs < maxN) :
    Calls Tryd.prog 57 #[va] w fun e w' => (∃ s, e = .returned (.string s) ∧ s.size ≤ 5464 ∧ Hid (IsIText (bs s) x)) ∧ Below w.heap.size w w' :=
  (wtext_any ha hx).mono fun _ _ h => ⟨⟨h.1.choose, h.1.choose_spec.1, by rw [← bs_len]; exact itext_len h.1.choose_spec.2 hx, h.1.choose_spec.2⟩, h.2⟩
theorem text_sz {va : Value} {x : Nat} {w : World} (ha : IsNat w va x) (hx : x < maxN) :
    Calls Tryd.prog 58 #[va] w fun e w' => (∃ s, e = .returned (.string s) ∧ s.size ≤ 5463 ∧ Hid (IsText (bs s) x)) ∧ Below w.heap.size w w' :=
  (text_any ha hx).mono fun _ _ h => ⟨⟨h.1.choose, h.1.choose_spec.1, by rw [← bs_len]; exact text_len h.1.choose_spec.2 hx, h.1.choose_spec.2⟩, h.2⟩

set_option maxRecDepth 100000 in
set_option maxHeartbeats 4000000 in
theorem rtext_any {va : Value} {x : Rat} {w : World} (ha : IsRat w va x) (hx : x.num.natAbs < maxN ∧ x.den < maxN) :
    Calls Tryd.prog 23 #[va] w fun e w' => (∃ s, e = .returned (.string s) ∧ IsRText (bs s) x) ∧ Below w.heap.size w w' := by
  obtain ⟨b1, p1, l1, K1, q1, j1, J1, rfl, hb1, n1, d1⟩ := ha
  obtain ⟨c, hc⟩ : ∃ c, cmpI (x.den : Int) ((1 : Nat) : Int) = c := ⟨_, rfl⟩
  have HX := Lib.hid hx
  have HC := Lib.hid hc
  have h1 := cmpI_one x.den x.den_nz
  rw [hc] at h1
  clear hx hc
  by_cases hd : x.den = 1
  · have hcz : (c == 0) = true := by rw [h1]; exact decide_eq_true hd
    have HD := Lib.hid hd
    clear h1 hd
    have S := (St.start w).alloc 45 [.bool b1, .slice p1 l1 K1, .slice q1 j1 J1] (w.heap.size)
    simp only [List.nil_append] at S
    replace n1 := n1.hold S.hold
    replace d1 := d1.hold S.hold
    have c0_0 := S.c 0 0 rfl rfl
    have c0_1 := S.c 0 1 rfl rfl
    have c0_2 := S.c 0 2 rfl rfl
    go_enter Tryd.func23, Tryd.ntmps23
    go_upto_region 1 with fail
    clear c0_0 c0_1 c0_2
    generalize (w.alloc (.cells #[.bool b1, .slice p1 l1 K1, .slice q1 j1 J1] 45)) = w1 at S n1 d1 ⊢
    have HH := Hold.drew w1
    replace n1 := n1.hold HH
    replace d1 := d1.hold HH
    replace S := S.drew
    refine wp_region_held_drew (S := fun W => W.cell? ⟨w.heap.size, 0, none⟩ = some (.bool b1) ∧ W.cell? ⟨w.heap.size, 1, none⟩ = some (.slice p1 l1 K1) ∧ W.cell? ⟨w.heap.size, 2, none⟩ = some (.slice q1 j1 J1)) (by kernel_rfl) ⟨S.c 0 0 rfl rfl, S.c 0 1 rfl rfl, S.c 0 2 rfl rfl⟩ (fun hS => ?_)
    generalize w1.drew = w2 at S n1 d1 HH hS ⊢
    refine wpAnyH_take (i := 0) (v := ?_) ((List.getElem?_toArray ..).trans rfl) (by kernel_rfl) (by kernel_rfl) (by kernel_rfl) (fun _ _ _ h => h) (Or.inl ⟨rfl, fun W hW => ?_⟩) hS ?_
    rotate_left
    · obtain ⟨hW0, hW1, hW2⟩ := hW; go_simp; try first | rfl | (rw [if_neg (by first | omega | (simp only [ByteArray.size_append]; first | omega | (have h1 : (ByteArray.mk #[47]).size = 1 := rfl; omega)))]; try rfl) | kernel_rfl
    try simp only [Act.put, List.setIfInBounds_toArray, List.set_cons_zero, List.set_cons_succ]
    refine wpAnyH_take (i := 1) (v := ?_) ((List.getElem?_toArray ..).trans rfl) (by kernel_rfl) (by kernel_rfl) (by kernel_rfl) (fun _ _ _ h => h) (Or.inl ⟨rfl, fun W hW => ?_⟩) hS ?_
    rotate_left
    · obtain ⟨hW0, hW1, hW2⟩ := hW; go_simp; try first | rfl | (rw [if_neg (by first | omega | (simp only [ByteArray.size_append]; first | omega | (have h1 : (ByteArray.mk #[47]).size = 1 := rfl; omega)))]; try rfl) | kernel_rfl
    try simp only [Act.put, List.setIfInBounds_toArray, List.set_cons_zero, List.set_cons_succ]
    refine wpAnyH_ready (rs := [2]) (by kernel_rfl) (by simp) (AllReadyH.cons ((List.getElem?_toArray ..).trans rfl) (fun KK hKK => ?_) AllReadyH.nil)
    go_simp
    clear hS
    refine (S.call (of_any 1 _ (by decide))).mono ?_
    clear S
    rintro e w3 ⟨⟨vo, rfl, no⟩, S, H⟩
    replace n1 := n1.hold H
    replace d1 := d1.hold H
    replace HH := HH.trans H
    clear H
    go_wp2_with fail
    refine hKK.out _ _ ⟨S.c 0 0 rfl rfl, S.c 0 1 rfl rfl, S.c 0 2 rfl rfl⟩ (fun hS => ?_)
    clear hKK KK
    try simp only [Act.put, List.setIfInBounds_toArray, List.set_cons_zero, List.set_cons_succ]
    refine wpAnyH_ready (rs := [3]) (by kernel_rfl) (by simp) (AllReadyH.cons ((List.getElem?_toArray ..).trans rfl) (fun KK hKK => ?_) AllReadyH.nil)
    go_simp
    clear hS
    refine (S.call (compare_nat d1 no HX.out.2 (lt_maxN (by decide)) HC.out)).mono ?_
    clear S
    rintro e w4 ⟨rfl, S, H⟩
    replace n1 := n1.hold H
    replace d1 := d1.hold H
    replace no := no.hold H
    replace HH := HH.trans H
    clear H
    go_wp2_with fail
    refine hKK.out _ _ ⟨S.c 0 0 rfl rfl, S.c 0 1 rfl rfl, S.c 0 2 rfl rfl⟩ (fun hS => ?_)
    clear hKK KK
    try simp only [Act.put, List.setIfInBounds_toArray, List.set_cons_zero, List.set_cons_succ]
    refine wpAnyH_take (i := 4) (v := ?_) ((List.getElem?_toArray ..).trans rfl) (by kernel_rfl) (by kernel_rfl) (by kernel_rfl) (fun _ _ _ h => h) (Or.inl ⟨rfl, fun W hW => ?_⟩) hS ?_
    rotate_left
    · obtain ⟨hW0, hW1, hW2⟩ := hW; go_simp; try first | rfl | (rw [if_neg (by first | omega | (simp only [ByteArray.size_append]; first | omega | (have h1 : (ByteArray.mk #[47]).size = 1 := rfl; omega)))]; try rfl) | kernel_rfl
    try simp only [Act.put, List.setIfInBounds_toArray, List.set_cons_zero, List.set_cons_succ]
    refine wpAnyH_done (by kernel_rfl) ?_ _
    clear hS HH
    have c0_0 := S.c 0 0 rfl rfl
    have c0_1 := S.c 0 1 rfl rfl
    have c0_2 := S.c 0 2 rfl rfl
    go_wp2_with fail
    clear c0_0 c0_1 c0_2
    refine (S.call (wtext_any ⟨_, _, _, by rw [hb1.out], n1⟩ HX.out.1)).mono ?_
    clear S
    rintro e w5 ⟨⟨s, rfl, hs⟩, S, H⟩
    replace n1 := n1.hold H
    replace d1 := d1.hold H
    replace no := no.hold H
    clear H
    have c0_0 := S.c 0 0 rfl rfl
    have c0_1 := S.c 0 1 rfl rfl
    have c0_2 := S.c 0 2 rfl rfl
    go_wp2_with fail
    exact bodyPost_ret (v := .string s) (by simp [results, Tryd.f23, go_sem]) rfl (⟨⟨s, rfl, .inl ⟨HD.out, hs⟩⟩, S.below⟩)
  · have hcz : (c == 0) = false := by rw [h1]; exact decide_eq_false hd
    have HD := Lib.hid hd
    clear h1 hd
    have S := (St.start w).alloc 45 [.bool b1, .slice p1 l1 K1, .slice q1 j1 J1] (w.heap.size)
    simp only [List.nil_append] at S
    replace n1 := n1.hold S.hold
    replace d1 := d1.hold S.hold
    have c0_0 := S.c 0 0 rfl rfl
    have c0_1 := S.c 0 1 rfl rfl
    have c0_2 := S.c 0 2 rfl rfl
    go_enter Tryd.func23, Tryd.ntmps23
    go_upto_region 1 with fail
    clear c0_0 c0_1 c0_2
    generalize (w.alloc (.cells #[.bool b1, .slice p1 l1 K1, .slice q1 j1 J1] 45)) = w1 at S n1 d1 ⊢
    have HH := Hold.drew w1
    replace n1 := n1.hold HH
    replace d1 := d1.hold HH
    replace S := S.drew
    refine wp_region_held_drew (S := fun W => W.cell? ⟨w.heap.size, 0, none⟩ = some (.bool b1) ∧ W.cell? ⟨w.heap.size, 1, none⟩ = some (.slice p1 l1 K1) ∧ W.cell? ⟨w.heap.size, 2, none⟩ = some (.slice q1 j1 J1)) (by kernel_rfl) ⟨S.c 0 0 rfl rfl, S.c 0 1 rfl rfl, S.c 0 2 rfl rfl⟩ (fun hS => ?_)
    generalize w1.drew = w2 at S n1 d1 HH hS ⊢
    refine wpAnyH_take (i := 0) (v := ?_) ((List.getElem?_toArray ..).trans rfl) (by kernel_rfl) (by kernel_rfl) (by kernel_rfl) (fun _ _ _ h => h) (Or.inl ⟨rfl, fun W hW => ?_⟩) hS ?_
    rotate_left
    · obtain ⟨hW0, hW1, hW2⟩ := hW; go_simp; try first | rfl | (rw [if_neg (by first | omega | (simp only [ByteArray.size_append]; first | omega | (have h1 : (ByteArray.mk #[47]).size = 1 := rfl; omega)))]; try rfl) | kernel_rfl
    try simp only [Act.put, List.setIfInBounds_toArray, List.set_cons_zero, List.set_cons_succ]
    refine wpAnyH_take (i := 1) (v := ?_) ((List.getElem?_toArray ..).trans rfl) (by kernel_rfl) (by kernel_rfl) (by kernel_rfl) (fun _ _ _ h => h) (Or.inl ⟨rfl, fun W hW => ?_⟩) hS ?_
    rotate_left
    · obtain ⟨hW0, hW1, hW2⟩ := hW; go_simp; try first | rfl | (rw [if_neg (by first | omega | (simp only [ByteArray.size_append]; first | omega | (have h1 : (ByteArray.mk #[47]).size = 1 := rfl; omega)))]; try rfl) | kernel_rfl
    try simp only [Act.put, List.setIfInBounds_toArray, List.set_cons_zero, List.set_cons_succ]
    refine wpAnyH_ready (rs := [2]) (by kernel_rfl) (by simp) (AllReadyH.cons ((List.getElem?_toArray ..).trans rfl) (fun KK hKK => ?_) AllReadyH.nil)
    go_simp
    clear hS
    refine (S.call (of_any 1 _ (by decide))).mono ?_
    clear S
    rintro e w3 ⟨⟨vo, rfl, no⟩, S, H⟩
    replace n1 := n1.hold H
    replace d1 := d1.hold H
    replace HH := HH.trans H
    clear H
    go_wp2_with fail
    refine hKK.out _ _ ⟨S.c 0 0 rfl rfl, S.c 0 1 rfl rfl, S.c 0 2 rfl rfl⟩ (fun hS => ?_)
    clear hKK KK
    try simp only [Act.put, List.setIfInBounds_toArray, List.set_cons_zero, List.set_cons_succ]
    refine wpAnyH_ready (rs := [3]) (by kernel_rfl) (by simp) (AllReadyH.cons ((List.getElem?_toArray ..).trans rfl) (fun KK hKK => ?_) AllReadyH.nil)
    go_simp
    clear hS
    refine (S.call (compare_nat d1 no HX.out.2 (lt_maxN (by decide)) HC.out)).mono ?_
    clear S
    rintro e w4 ⟨rfl, S, H⟩
    replace n1 := n1.hold H
    replace d1 := d1.hold H
    replace no := no.hold H
    replace HH := HH.trans H
    clear H
    go_wp2_with fail
    refine hKK.out _ _ ⟨S.c 0 0 rfl rfl, S.c 0 1 rfl rfl, S.c 0 2 rfl rfl⟩ (fun hS => ?_)
    clear hKK KK
    try simp only [Act.put, List.setIfInBounds_toArray, List.set_cons_zero, List.set_cons_succ]
    refine wpAnyH_take (i := 4) (v := ?_) ((List.getElem?_toArray ..).trans rfl) (by kernel_rfl) (by kernel_rfl) (by kernel_rfl) (fun _ _ _ h => h) (Or.inl ⟨rfl, fun W hW => ?_⟩) hS ?_
    rotate_left
    · obtain ⟨hW0, hW1, hW2⟩ := hW; go_simp; try first | rfl | (rw [if_neg (by first | omega | (simp only [ByteArray.size_append]; first | omega | (have h1 : (ByteArray.mk #[47]).size = 1 := rfl; omega)))]; try rfl) | kernel_rfl
    try simp only [Act.put, List.setIfInBounds_toArray, List.set_cons_zero, List.set_cons_succ]
    refine wpAnyH_done (by kernel_rfl) ?_ _
    clear hS HH
    have c0_0 := S.c 0 0 rfl rfl
    have c0_1 := S.c 0 1 rfl rfl
    have c0_2 := S.c 0 2 rfl rfl
    go_upto_region 3 with fail
    clear c0_0 c0_1 c0_2
    have HH := Hold.drew w4
    replace n1 := n1.hold HH
    replace d1 := d1.hold HH
    replace no := no.hold HH
    replace S := S.drew
    refine wp_region_held_drew (S := fun W => W.cell? ⟨w.heap.size, 0, none⟩ = some (.bool b1) ∧ W.cell? ⟨w.heap.size, 1, none⟩ = some (.slice p1 l1 K1) ∧ W.cell? ⟨w.heap.size, 2, none⟩ = some (.slice q1 j1 J1)) (by kernel_rfl) ⟨S.c 0 0 rfl rfl, S.c 0 1 rfl rfl, S.c 0 2 rfl rfl⟩ (fun hS => ?_)
    generalize w4.drew = w5 at S n1 d1 no HH hS ⊢
    refine wpAnyH_take (i := 0) (v := ?_) ((List.getElem?_toArray ..).trans rfl) (by kernel_rfl) (by kernel_rfl) (by kernel_rfl) (fun _ _ _ h => h) (Or.inl ⟨rfl, fun W hW => ?_⟩) hS ?_
    rotate_left
    · obtain ⟨hW0, hW1, hW2⟩ := hW; go_simp; try first | rfl | (rw [if_neg (by first | omega | (simp only [ByteArray.size_append]; first | omega | (have h1 : (ByteArray.mk #[47]).size = 1 := rfl; omega)))]; try rfl) | kernel_rfl
    try simp only [Act.put, List.setIfInBounds_toArray, List.set_cons_zero, List.set_cons_succ]
    refine wpAnyH_take (i := 1) (v := ?_) ((List.getElem?_toArray ..).trans rfl) (by kernel_rfl) (by kernel_rfl) (by kernel_rfl) (fun _ _ _ h => h) (Or.inl ⟨rfl, fun W hW => ?_⟩) hS ?_
    rotate_left
    · obtain ⟨hW0, hW1, hW2⟩ := hW; go_simp; try first | rfl | (rw [if_neg (by first | omega | (simp only [ByteArray.size_append]; first | omega | (have h1 : (ByteArray.mk #[47]).size = 1 := rfl; omega)))]; try rfl) | kernel_rfl
    try simp only [Act.put, List.setIfInBounds_toArray, List.set_cons_zero, List.set_cons_succ]
    refine wpAnyH_take (i := 4) (v := ?_) ((List.getElem?_toArray ..).trans rfl) (by kernel_rfl) (by kernel_rfl) (by kernel_rfl) (fun _ _ _ h => h) (Or.inl ⟨rfl, fun W hW => ?_⟩) hS ?_
    rotate_left
    · obtain ⟨hW0, hW1, hW2⟩ := hW; go_simp; try first | rfl | (rw [if_neg (by first | omega | (simp only [ByteArray.size_append]; first | omega | (have h1 : (ByteArray.mk #[47]).size = 1 := rfl; omega)))]; try rfl) | kernel_rfl
    try simp only [Act.put, List.setIfInBounds_toArray, List.set_cons_zero, List.set_cons_succ]
    refine wpAnyH_take (i := 5) (v := ?_) ((List.getElem?_toArray ..).trans rfl) (by kernel_rfl) (by kernel_rfl) (by kernel_rfl) (fun _ _ _ h => h) (Or.inl ⟨rfl, fun W hW => ?_⟩) hS ?_
    rotate_left
    · obtain ⟨hW0, hW1, hW2⟩ := hW; go_simp; try first | rfl | (rw [if_neg (by first | omega | (simp only [ByteArray.size_append]; first | omega | (have h1 : (ByteArray.mk #[47]).size = 1 := rfl; omega)))]; try rfl) | kernel_rfl
    try simp only [Act.put, List.setIfInBounds_toArray, List.set_cons_zero, List.set_cons_succ]
    refine wpAnyH_ready (rs := [2]) (by kernel_rfl) (by simp) (AllReadyH.cons ((List.getElem?_toArray ..).trans rfl) (fun KK hKK => ?_) AllReadyH.nil)
    go_simp
    clear hS
    refine (S.call (wtext_sz ⟨_, _, _, by rw [hb1.out], n1⟩ HX.out.1)).mono ?_
    clear S
    rintro e w6 ⟨⟨s, rfl, ls, hs⟩, S, H⟩
    replace n1 := n1.hold H
    replace d1 := d1.hold H
    replace no := no.hold H
    replace HH := HH.trans H
    clear H
    go_wp2_with fail
    refine hKK.out _ _ ⟨S.c 0 0 rfl rfl, S.c 0 1 rfl rfl, S.c 0 2 rfl rfl⟩ (fun hS => ?_)
    clear hKK KK
    try simp only [Act.put, List.setIfInBounds_toArray, List.set_cons_zero, List.set_cons_succ]
    refine wpAnyH_take (i := 3) (v := ?_) ((List.getElem?_toArray ..).trans rfl) (by kernel_rfl) (by kernel_rfl) (by kernel_rfl) (fun _ _ _ h => h) (Or.inl ⟨rfl, fun W hW => ?_⟩) hS ?_
    rotate_left
    · obtain ⟨hW0, hW1, hW2⟩ := hW; go_simp; try first | rfl | (rw [if_neg (by first | omega | (simp only [ByteArray.size_append]; first | omega | (have h1 : (ByteArray.mk #[47]).size = 1 := rfl; omega)))]; try rfl) | kernel_rfl
    try simp only [Act.put, List.setIfInBounds_toArray, List.set_cons_zero, List.set_cons_succ]
    refine wpAnyH_ready (rs := [6]) (by kernel_rfl) (by simp) (AllReadyH.cons ((List.getElem?_toArray ..).trans rfl) (fun KK hKK => ?_) AllReadyH.nil)
    go_simp
    clear hS
    refine (S.call (text_sz d1 HX.out.2)).mono ?_
    clear S
    rintro e w7 ⟨⟨t, rfl, lt, ht⟩, S, H⟩
    replace n1 := n1.hold H
    replace d1 := d1.hold H
    replace no := no.hold H
    replace HH := HH.trans H
    clear H
    go_wp2_with fail
    refine hKK.out _ _ ⟨S.c 0 0 rfl rfl, S.c 0 1 rfl rfl, S.c 0 2 rfl rfl⟩ (fun hS => ?_)
    clear hKK KK
    try simp only [Act.put, List.setIfInBounds_toArray, List.set_cons_zero, List.set_cons_succ]
    refine wpAnyH_take (i := 7) (v := ?_) ((List.getElem?_toArray ..).trans rfl) (by kernel_rfl) (by kernel_rfl) (by kernel_rfl) (fun _ _ _ h => h) (Or.inl ⟨rfl, fun W hW => ?_⟩) hS ?_
    rotate_left
    · obtain ⟨hW0, hW1, hW2⟩ := hW; go_simp; try first | rfl | (rw [if_neg (by first | omega | (simp only [ByteArray.size_append]; first | omega | (have h1 : (ByteArray.mk #[47]).size = 1 := rfl; omega)))]; try rfl) | kernel_rfl
    try simp only [Act.put, List.setIfInBounds_toArray, List.set_cons_zero, List.set_cons_succ]
    refine wpAnyH_ready (rs := [8]) (by kernel_rfl) (by simp) (AllReadyH.cons ((List.getElem?_toArray ..).trans rfl) (fun KK hKK => ?_) AllReadyH.nil)
    go_simp
    refine hKK.out _ _ hS (fun hS => ?_)
    clear hKK KK
    try simp only [Act.put, List.setIfInBounds_toArray, List.set_cons_zero, List.set_cons_succ]
    refine wpAnyH_done (by kernel_rfl) ?_ _
    clear hS HH
    have c0_0 := S.c 0 0 rfl rfl
    have c0_1 := S.c 0 1 rfl rfl
    have c0_2 := S.c 0 2 rfl rfl
    go_wp2_with fail
    exact bodyPost_ret (v := .string (s ++ ⟨#[47]⟩ ++ t)) (by simp [results, Tryd.f23, go_sem]) rfl (⟨⟨_, rfl, .inr ⟨HD.out, _, _, by rw [bs_add, bs_add]; exact List.append_assoc _ _ _, hs.out, ht.out⟩⟩, S.below⟩)

end Go.Proofs.YtnkmcikjeicpfaaDoor

namespace Go.Proofs.YtnkmcikjeicpfaaDoor
open Go.RowKit

theorem IsRText.uniq {l m : List Nat} {x : Rat} (h : IsRText l x) (g : IsRText m x) : l = m := by
  rcases h with ⟨h0, h1⟩ | ⟨h0, t, u, rfl, h1, h2⟩ <;> rcases g with ⟨g0, g1⟩ | ⟨g0, t', u', rfl, g1, g2⟩
  · exact h1.uniq g1
  · exact absurd h0 g0
  · exact absurd g0 h0
  · rw [h1.uniq g1, h2.uniq g2]
theorem rtext_lit {va : Value} {x : Rat} {w : World} (ha : IsRat w va x) (s : ByteArray) (hx : x.num.natAbs < maxN ∧ x.den < maxN) (hs : IsRText (bs s) x) :
    Calls Tryd.prog 23 #[va] w fun e w' => e = .returned (.string s) ∧ Below w.heap.size w w' :=
  (rtext_any ha hx).mono fun _ _ h => ⟨by obtain ⟨t, h1, h2⟩ := h.1; rw [h1, bs_inj (h2.uniq hs)], h.2⟩
theorem rb_one {x : Rat} (h1 : x.num.natAbs < 4294967296) (h2 : x.den < 4294967296) : RB x 1 := ⟨by rw [NB_one]; exact h1, by rw [NB_one]; exact h2⟩
theorem rtext_frac (n : Int) (d : Nat) (x : Rat) (hn : x.num = n) (hd : x.den = d) (t u l : List Nat) (hl : l = t ++ 47 :: u) (h1 : d ≠ 1) (ht : IsIText t n) (hu : IsText u d) : IsRText l x :=
  .inr ⟨by rw [hd]; exact h1, t, u, hl, by rw [hn]; exact ht, by rw [hd]; exact hu⟩

end Go.Proofs.YtnkmcikjeicpfaaDoor

namespace Go.Proofs.YtnkmcikjeicpfaaDoor
open Go.RowKit

def qa : Rat := mkRat (3) 2
def qb : Rat := mkRat (-4) 1
def qs : Rat := mkRat (-5) 2
def qd : Rat := mkRat (11) 2
def qp : Rat := mkRat (-6) 1
def qx : Rat := mkRat (20) 1
def qy : Rat := mkRat (24) 1
def ql : Rat := mkRat (5) 16
def qm : Rat := mkRat (11) 32
def qt : Rat := mkRat (1) 3
def q21 : Rat := mkRat (21) 1
def q4 : Rat := mkRat (4) 1
theorem qa_is : qa = Rat.divInt (3) 2 := by decide +kernel
theorem qa_rb : RB qa 1 := rb_one (by decide +kernel) (by decide +kernel)
theorem qb_is : qb = Rat.divInt (-4) 1 := by decide +kernel
theorem qb_rb : RB qb 1 := rb_one (by decide +kernel) (by decide +kernel)
theorem qs_is : qs = Rat.divInt (-5) 2 := by decide +kernel
theorem qs_rb : RB qs 1 := rb_one (by decide +kernel) (by decide +kernel)
theorem qd_is : qd = Rat.divInt (11) 2 := by decide +kernel
theorem qd_rb : RB qd 1 := rb_one (by decide +kernel) (by decide +kernel)
theorem qp_is : qp = Rat.divInt (-6) 1 := by decide +kernel
theorem qp_rb : RB qp 1 := rb_one (by decide +kernel) (by decide +kernel)
theorem qx_is : qx = Rat.divInt (20) 1 := by decide +kernel
theorem qx_rb : RB qx 1 := rb_one (by decide +kernel) (by decide +kernel)
theorem qy_is : qy = Rat.divInt (24) 1 := by decide +kernel
theorem qy_rb : RB qy 1 := rb_one (by decide +kernel) (by decide +kernel)
theorem ql_is : ql = Rat.divInt (5) 16 := by decide +kernel
theorem ql_rb : RB ql 1 := rb_one (by decide +kernel) (by decide +kernel)
theorem qm_is : qm = Rat.divInt (11) 32 := by decide +kernel
theorem qm_rb : RB qm 1 := rb_one (by decide +kernel) (by decide +kernel)
theorem qt_is : qt = Rat.divInt (1) 3 := by decide +kernel
theorem qt_rb : RB qt 1 := rb_one (by decide +kernel) (by decide +kernel)
theorem q21_is : q21 = Rat.divInt (21) 1 := by decide +kernel
theorem q21_rb : RB q21 1 := rb_one (by decide +kernel) (by decide +kernel)
theorem q4_is : q4 = Rat.divInt (4) 1 := by decide +kernel
theorem q4_rb : RB q4 1 := rb_one (by decide +kernel) (by decide +kernel)
theorem qa_dq : dq 3 (-1) = qa := by decide +kernel
theorem qb_dq : dq (-1) 2 = qb := by decide +kernel
theorem q21_dq : dq 21 0 = q21 := by decide +kernel
theorem qy_dq : dq 12 1 = qy := by decide +kernel
theorem qy_dq2 : dq 3 3 = qy := by decide +kernel
theorem qs_sum : qa + qb = qs := by decide +kernel
theorem qd_sub : qa - qb = qd := by decide +kernel
theorem qp_mul : qa * qb = qp := by decide +kernel
theorem qx_rnd : rnd 21 0 3 false = qx := by decide +kernel
theorem qy_rnd : rnd 21 0 3 true = qy := by decide +kernel
theorem ql_near : nearV 1 3 0 4 false = ql := by decide +kernel
theorem qm_near : nearV 1 3 0 4 true = qm := by decide +kernel
theorem qlt_cmp : cmpR ql qt = -1 := by decide +kernel
theorem qb_neg : -qb = q4 := by decide +kernel
theorem qb_abs : qb.abs = q4 := by decide +kernel
theorem qba_lt : decide (qb < qa) = true := by decide +kernel
theorem qab_max : max2 qa qb = qa := by decide +kernel
theorem qab_min : min2 qa qb = qb := by decide +kernel
theorem qb_sgn : qb.num.sign = -1 := by decide +kernel
theorem qa_text : IsRText (bs ⟨#[51, 47, 50]⟩) qa := rtext_frac 3 2 qa (by decide +kernel) (by decide +kernel) [51] [50] _ rfl (by decide) (itext_pos (by decide) ⟨by decide, by decide, by decide, by decide⟩) ⟨by decide, by decide, by decide, by decide⟩
/-- A number of which it is known what it is stands so. -/
theorem dyf_at {m e n f : Int} {x : Rat} {L H : Nat} (h : DyF m e x L H) (hc : DyC n f) (hx : dq n f = x) : m = n ∧ e = f := dyc_uniq h.1 hc (by rw [h.2.2, hx])
theorem rnd_at {m e n f : Int} {x y : Rat} {L H k : Nat} {up : Bool} (h : DyF m e x L H) (hc : DyC n f) (hx : dq n f = x) (hy : rnd n f k up = y) : rnd m e k up = y := by
  obtain ⟨rfl, rfl⟩ := dyf_at h hc hx
  exact hy
theorem third_num : qt.num = 1 := by decide +kernel
theorem third_den : qt.den = 3 := by decide +kernel
theorem third_ne : qt ≠ 0 := by decide +kernel
theorem third_tail : TailIs qt.den 0 := by rw [third_den]; exact .inr ⟨1, rfl⟩
theorem third_div : qt.den / 2 ^ 0 = 3 := by rw [third_den]

end Go.Proofs.YtnkmcikjeicpfaaDoor

namespace Go.Proofs.YtnkmcikjeicpfaaDoor
open Go.RowKit

set_option maxRecDepth 100000 in
set_option maxHeartbeats 16000000 in
theorem halves_any (w : World) (hT : Tab w) : Calls Tryd.prog 4 #[] w fun e w' => e = .returned (.bool true) ∧ Below w.heap.size w w' := by
  have HT := Lib.hid hT
  clear hT
  have S := St.start w
  try simp only [List.cons_append, List.nil_append] at S
  go_enter Tryd.func4, Tryd.ntmps4
  go_wp2_with fail
  refine (S.call (dof_any 3 (-1) _ (HT.out.below S.below) (by decide) (by decide) (by decide) (by decide) qa qa_dq)).mono ?_
  clear S
  rintro e w1 ⟨⟨_, rfl, bA, pA, lA, KA, mA, eA, rfl, hA, nA, dA⟩, S, H⟩
  clear H
  go_wp2_with fail
  refine (S.call (dof_any (-1) 2 _ (HT.out.below S.below) (by decide) (by decide) (by decide) (by decide) qb qb_dq)).mono ?_
  clear S
  rintro e w2 ⟨⟨_, rfl, bB, pB, lB, KB, mB, eB, rfl, hB, nB, dB⟩, S, H⟩
  replace nA := nA.hold H
  clear H
  have H := S.hnew 27 [.bool bA, .slice pA lA KA, .int .i64 eA]
  replace S := S.alloc 27 [.bool bA, .slice pA lA KA, .int .i64 eA] (w2.heap.size)
  try simp only [List.cons_append, List.nil_append] at S
  replace nA := nA.hold H
  replace nB := nB.hold H
  clear H
  have H := S.hnew 27 [.bool bB, .slice pB lB KB, .int .i64 eB]
  replace S := S.alloc 27 [.bool bB, .slice pB lB KB, .int .i64 eB] (w2.heap.size + 1)
  try simp only [List.cons_append, List.nil_append] at S
  replace nA := nA.hold H
  replace nB := nB.hold H
  clear H
  have c0_0 := S.c 0 0 rfl rfl
  have c0_1 := S.c 0 1 rfl rfl
  have c0_2 := S.c 0 2 rfl rfl
  have c1_0 := S.c 1 0 rfl rfl
  have c1_1 := S.c 1 1 rfl rfl
  have c1_2 := S.c 1 2 rfl rfl
  go_wp2_with fail
  clear c0_0 c0_1 c0_2 c1_0 c1_1 c1_2
  refine (S.call (dadd_any (HT.out.below S.below) ⟨bA, pA, lA, KA, mA, eA, rfl, hA, nA, dA⟩ ⟨bB, pB, lB, KB, mB, eB, rfl, hB, nB, dB⟩ (by decide) qs qs_sum)).mono ?_
  clear S
  rintro e w3 ⟨⟨_, rfl, bG, pG, lG, KG, mG, eG, rfl, hG, nG, dG⟩, S, H⟩
  replace nA := nA.hold H
  replace nB := nB.hold H
  clear H
  have c0_0 := S.c 0 0 rfl rfl
  have c0_1 := S.c 0 1 rfl rfl
  have c0_2 := S.c 0 2 rfl rfl
  have c1_0 := S.c 1 0 rfl rfl
  have c1_1 := S.c 1 1 rfl rfl
  have c1_2 := S.c 1 2 rfl rfl
  have H := S.hnew 27 [.bool bG, .slice pG lG KG, .int .i64 eG]
  replace S := S.alloc 27 [.bool bG, .slice pG lG KG, .int .i64 eG] (w3.heap.size)
  try simp only [List.cons_append, List.nil_append] at S
  replace nA := nA.hold H
  replace nB := nB.hold H
  replace nG := nG.hold H
  clear H
  clear c0_0 c0_1 c0_2 c1_0 c1_1 c1_2
  have c0_0 := S.c 0 0 rfl rfl
  have c0_1 := S.c 0 1 rfl rfl
  have c0_2 := S.c 0 2 rfl rfl
  have c1_0 := S.c 1 0 rfl rfl
  have c1_1 := S.c 1 1 rfl rfl
  have c1_2 := S.c 1 2 rfl rfl
  go_wp2_with fail
  generalize (.tuple #[.agg #[.bool bG, .slice pG lG KG, .int .i64 eG], .int .i64 0] : Value) = g1
  clear c0_0 c0_1 c0_2 c1_0 c1_1 c1_2
  refine (S.call (dsub_any (HT.out.below S.below) ⟨bA, pA, lA, KA, mA, eA, rfl, hA, nA, dA⟩ ⟨bB, pB, lB, KB, mB, eB, rfl, hB, nB, dB⟩ (by decide) qd qd_sub)).mono ?_
  clear S
  rintro e w4 ⟨⟨_, rfl, bD, pD, lD, KD, mD, eD, rfl, hD, nD, dD⟩, S, H⟩
  replace nA := nA.hold H
  replace nB := nB.hold H
  replace nG := nG.hold H
  clear H
  have c0_0 := S.c 0 0 rfl rfl
  have c0_1 := S.c 0 1 rfl rfl
  have c0_2 := S.c 0 2 rfl rfl
  have c1_0 := S.c 1 0 rfl rfl
  have c1_1 := S.c 1 1 rfl rfl
  have c1_2 := S.c 1 2 rfl rfl
  have H := S.hnew 27 [.bool bD, .slice pD lD KD, .int .i64 eD]
  replace S := S.alloc 27 [.bool bD, .slice pD lD KD, .int .i64 eD] (w4.heap.size)
  try simp only [List.cons_append, List.nil_append] at S
  replace nA := nA.hold H
  replace nB := nB.hold H
  replace nG := nG.hold H
  replace nD := nD.hold H
  clear H
  clear c0_0 c0_1 c0_2 c1_0 c1_1 c1_2
  have c0_0 := S.c 0 0 rfl rfl
  have c0_1 := S.c 0 1 rfl rfl
  have c0_2 := S.c 0 2 rfl rfl
  have c1_0 := S.c 1 0 rfl rfl
  have c1_1 := S.c 1 1 rfl rfl
  have c1_2 := S.c 1 2 rfl rfl
  go_wp2_with fail
  generalize (.tuple #[.agg #[.bool bD, .slice pD lD KD, .int .i64 eD], .int .i64 0] : Value) = g2
  clear c0_0 c0_1 c0_2 c1_0 c1_1 c1_2
  refine (S.call (dmul_any (HT.out.below S.below) ⟨bA, pA, lA, KA, mA, eA, rfl, hA, nA, dA⟩ ⟨bB, pB, lB, KB, mB, eB, rfl, hB, nB, dB⟩ (by decide) qp qp_mul)).mono ?_
  clear S
  rintro e w5 ⟨⟨_, rfl, bP, pP, lP, KP, mP, eP, rfl, hP, nP, dP⟩, S, H⟩
  replace nA := nA.hold H
  replace nB := nB.hold H
  replace nG := nG.hold H
  replace nD := nD.hold H
  clear H
  have c0_0 := S.c 0 0 rfl rfl
  have c0_1 := S.c 0 1 rfl rfl
  have c0_2 := S.c 0 2 rfl rfl
  have c1_0 := S.c 1 0 rfl rfl
  have c1_1 := S.c 1 1 rfl rfl
  have c1_2 := S.c 1 2 rfl rfl
  have H := S.hnew 27 [.bool bP, .slice pP lP KP, .int .i64 eP]
  replace S := S.alloc 27 [.bool bP, .slice pP lP KP, .int .i64 eP] (w5.heap.size)
  try simp only [List.cons_append, List.nil_append] at S
  replace nA := nA.hold H
  replace nB := nB.hold H
  replace nG := nG.hold H
  replace nD := nD.hold H
  replace nP := nP.hold H
  clear H
  clear c0_0 c0_1 c0_2 c1_0 c1_1 c1_2
  go_wp2_with fail
  generalize (.tuple #[.agg #[.bool bP, .slice pP lP KP, .int .i64 eP], .int .i64 0] : Value) = g3
  refine (S.call (dof_any 21 0 _ (HT.out.below S.below) (by decide) (by decide) (by decide) (by decide) q21 q21_dq)).mono ?_
  clear S
  rintro e w6 ⟨⟨_, rfl, bCX, pCX, lCX, KCX, mCX, eCX, rfl, hCX, nCX, dCX⟩, S, H⟩
  replace nA := nA.hold H
  replace nB := nB.hold H
  replace nG := nG.hold H
  replace nD := nD.hold H
  replace nP := nP.hold H
  clear H
  go_wp2_with fail
  refine (S.call (dround_any (HT.out.below S.below) hCX nCX dCX (by decide) 3 (by decide) (by decide) false qx (rnd_at dCX.out (.inr rfl) q21_dq qx_rnd))).mono ?_
  clear S
  rintro e w7 ⟨⟨_, rfl, bX, pX, lX, KX, mX, eX, rfl, hX, nX, dX⟩, S, H⟩
  replace nA := nA.hold H
  replace nB := nB.hold H
  replace nG := nG.hold H
  replace nD := nD.hold H
  replace nP := nP.hold H
  replace nCX := nCX.hold H
  clear H
  clear nCX
  have H := S.hnew 27 [.bool bX, .slice pX lX KX, .int .i64 eX]
  replace S := S.alloc 27 [.bool bX, .slice pX lX KX, .int .i64 eX] (w7.heap.size)
  try simp only [List.cons_append, List.nil_append] at S
  replace nA := nA.hold H
  replace nB := nB.hold H
  replace nG := nG.hold H
  replace nD := nD.hold H
  replace nP := nP.hold H
  replace nX := nX.hold H
  clear H
  go_wp2_with fail
  generalize (.tuple #[.agg #[.bool bX, .slice pX lX KX, .int .i64 eX], .int .i64 0] : Value) = g4
  refine (S.call (dof_any 21 0 _ (HT.out.below S.below) (by decide) (by decide) (by decide) (by decide) q21 q21_dq)).mono ?_
  clear S
  rintro e w8 ⟨⟨_, rfl, bCY, pCY, lCY, KCY, mCY, eCY, rfl, hCY, nCY, dCY⟩, S, H⟩
  replace nA := nA.hold H
  replace nB := nB.hold H
  replace nG := nG.hold H
  replace nD := nD.hold H
  replace nP := nP.hold H
  replace nX := nX.hold H
  clear H
  go_wp2_with fail
  refine (S.call (dround_any (HT.out.below S.below) hCY nCY dCY (by decide) 3 (by decide) (by decide) true qy (rnd_at dCY.out (.inr rfl) q21_dq qy_rnd))).mono ?_
  clear S
  rintro e w9 ⟨⟨_, rfl, bY, pY, lY, KY, mY, eY, rfl, hY, nY, dY⟩, S, H⟩
  replace nA := nA.hold H
  replace nB := nB.hold H
  replace nG := nG.hold H
  replace nD := nD.hold H
  replace nP := nP.hold H
  replace nX := nX.hold H
  replace nCY := nCY.hold H
  clear H
  clear nCY
  have H := S.hnew 27 [.bool bY, .slice pY lY KY, .int .i64 eY]
  replace S := S.alloc 27 [.bool bY, .slice pY lY KY, .int .i64 eY] (w9.heap.size)
  try simp only [List.cons_append, List.nil_append] at S
  replace nA := nA.hold H
  replace nB := nB.hold H
  replace nG := nG.hold H
  replace nD := nD.hold H
  replace nP := nP.hold H
  replace nX := nX.hold H
  replace nY := nY.hold H
  clear H
  go_wp2_with fail
  generalize (.tuple #[.agg #[.bool bY, .slice pY lY KY, .int .i64 eY], .int .i64 0] : Value) = g5
  refine (S.call (rof_any 1 3 _ (by decide) (by decide) (by decide) (by decide) (by decide) qt qt_is)).mono ?_
  clear S
  rintro e w10 ⟨⟨_, rfl, bCL, pCL, lCL, KCL, qCL, jCL, JCL, rfl, hCL, nCL, dCL⟩, S, H⟩
  replace nA := nA.hold H
  replace nB := nB.hold H
  replace nG := nG.hold H
  replace nD := nD.hold H
  replace nP := nP.hold H
  replace nX := nX.hold H
  replace nY := nY.hold H
  clear H
  go_wp2_with fail
  refine (S.call (dnear_any (HT.out.below S.below) ⟨bCL, pCL, lCL, KCL, qCL, jCL, JCL, rfl, hCL, nCL, dCL⟩ qt_rb 4 (by decide) (by decide) false third_ne 0 third_tail 3 third_div (by decide) ql (by rw [third_num]; exact ql_near))).mono ?_
  clear S
  rintro e w11 ⟨⟨_, rfl, bL, pL, lL, KL, mL, eL, rfl, hL, nL, dL⟩, S, H⟩
  replace nA := nA.hold H
  replace nB := nB.hold H
  replace nG := nG.hold H
  replace nD := nD.hold H
  replace nP := nP.hold H
  replace nX := nX.hold H
  replace nY := nY.hold H
  replace nCL := nCL.hold H
  replace dCL := dCL.hold H
  clear H
  clear nCL dCL
  have H := S.hnew 27 [.bool bL, .slice pL lL KL, .int .i64 eL]
  replace S := S.alloc 27 [.bool bL, .slice pL lL KL, .int .i64 eL] (w11.heap.size)
  try simp only [List.cons_append, List.nil_append] at S
  replace nA := nA.hold H
  replace nB := nB.hold H
  replace nG := nG.hold H
  replace nD := nD.hold H
  replace nP := nP.hold H
  replace nX := nX.hold H
  replace nY := nY.hold H
  replace nL := nL.hold H
  clear H
  go_wp2_with fail
  generalize (.tuple #[.agg #[.bool bL, .slice pL lL KL, .int .i64 eL], .int .i64 0] : Value) = g6
  refine (S.call (rof_any 1 3 _ (by decide) (by decide) (by decide) (by decide) (by decide) qt qt_is)).mono ?_
  clear S
  rintro e w12 ⟨⟨_, rfl, bCM, pCM, lCM, KCM, qCM, jCM, JCM, rfl, hCM, nCM, dCM⟩, S, H⟩
  replace nA := nA.hold H
  replace nB := nB.hold H
  replace nG := nG.hold H
  replace nD := nD.hold H
  replace nP := nP.hold H
  replace nX := nX.hold H
  replace nY := nY.hold H
  replace nL := nL.hold H
  clear H
  go_wp2_with fail
  refine (S.call (dnear_any (HT.out.below S.below) ⟨bCM, pCM, lCM, KCM, qCM, jCM, JCM, rfl, hCM, nCM, dCM⟩ qt_rb 4 (by decide) (by decide) true third_ne 0 third_tail 3 third_div (by decide) qm (by rw [third_num]; exact qm_near))).mono ?_
  clear S
  rintro e w13 ⟨⟨_, rfl, bM, pM, lM, KM, mM, eM, rfl, hM, nM, dM⟩, S, H⟩
  replace nA := nA.hold H
  replace nB := nB.hold H
  replace nG := nG.hold H
  replace nD := nD.hold H
  replace nP := nP.hold H
  replace nX := nX.hold H
  replace nY := nY.hold H
  replace nL := nL.hold H
  replace nCM := nCM.hold H
  replace dCM := dCM.hold H
  clear H
  clear nCM dCM
  have H := S.hnew 27 [.bool bM, .slice pM lM KM, .int .i64 eM]
  replace S := S.alloc 27 [.bool bM, .slice pM lM KM, .int .i64 eM] (w13.heap.size)
  try simp only [List.cons_append, List.nil_append] at S
  replace nA := nA.hold H
  replace nB := nB.hold H
  replace nG := nG.hold H
  replace nD := nD.hold H
  replace nP := nP.hold H
  replace nX := nX.hold H
  replace nY := nY.hold H
  replace nL := nL.hold H
  replace nM := nM.hold H
  clear H
  have c0_0 := S.c 0 0 rfl rfl
  have c0_1 := S.c 0 1 rfl rfl
  have c0_2 := S.c 0 2 rfl rfl
  go_wp2_with fail
  generalize (.tuple #[.agg #[.bool bM, .slice pM lM KM, .int .i64 eM], .int .i64 0] : Value) = g7
  clear c0_0 c0_1 c0_2
  refine (S.call (dratio_any ⟨bA, pA, lA, KA, mA, eA, rfl, hA, nA, dA⟩ (by decide))).mono ?_
  clear S
  rintro e w14 ⟨⟨_, rfl, bR, pR, lR, KR, qR, jR, JR, rfl, hR, nR, dR⟩, S, H⟩
  replace nA := nA.hold H
  replace nB := nB.hold H
  replace nG := nG.hold H
  replace nD := nD.hold H
  replace nP := nP.hold H
  replace nX := nX.hold H
  replace nY := nY.hold H
  replace nL := nL.hold H
  replace nM := nM.hold H
  clear H
  have c0_0 := S.c 0 0 rfl rfl
  have c0_1 := S.c 0 1 rfl rfl
  have c0_2 := S.c 0 2 rfl rfl
  have H := S.hnew 45 [.bool bR, .slice pR lR KR, .slice qR jR JR]
  replace S := S.alloc 45 [.bool bR, .slice pR lR KR, .slice qR jR JR] (w14.heap.size)
  try simp only [List.cons_append, List.nil_append] at S
  replace nA := nA.hold H
  replace nB := nB.hold H
  replace nG := nG.hold H
  replace nD := nD.hold H
  replace nP := nP.hold H
  replace nX := nX.hold H
  replace nY := nY.hold H
  replace nL := nL.hold H
  replace nM := nM.hold H
  replace nR := nR.hold H
  replace dR := dR.hold H
  clear H
  clear c0_0 c0_1 c0_2
  have c7_0 := S.c 7 0 rfl rfl
  have c7_1 := S.c 7 1 rfl rfl
  have c7_2 := S.c 7 2 rfl rfl
  go_upto_region 10 with fail
  clear c7_0 c7_1 c7_2
  replace nA := nA.hold (Hold.drew _)
  replace nB := nB.hold (Hold.drew _)
  replace nG := nG.hold (Hold.drew _)
  replace nD := nD.hold (Hold.drew _)
  replace nP := nP.hold (Hold.drew _)
  replace nX := nX.hold (Hold.drew _)
  replace nY := nY.hold (Hold.drew _)
  replace nL := nL.hold (Hold.drew _)
  replace nM := nM.hold (Hold.drew _)
  replace nR := nR.hold (Hold.drew _)
  replace dR := dR.hold (Hold.drew _)
  replace S := S.drew
  refine wp_region_held_drew (S := fun W => W.cell? ⟨w11.heap.size, 0, none⟩ = some (.bool bL) ∧ W.cell? ⟨w11.heap.size, 1, none⟩ = some (.slice pL lL KL) ∧ W.cell? ⟨w11.heap.size, 2, none⟩ = some (.int .i64 eL)) (by kernel_rfl) ⟨S.c 7 0 rfl rfl, S.c 7 1 rfl rfl, S.c 7 2 rfl rfl⟩ (fun hS => ?_)
  refine wpAnyH_take (i := 0) (v := ?_) ((List.getElem?_toArray ..).trans rfl) (by kernel_rfl) (by kernel_rfl) (by kernel_rfl) (fun _ _ _ h => h) (Or.inl ⟨rfl, fun W hW => ?_⟩) hS ?_
  rotate_left
  · obtain ⟨hW0, hW1, hW2⟩ := hW; go_simp; try first | rfl | (rw [if_neg (by first | omega | (simp only [ByteArray.size_append]; first | omega | (have h1 : (ByteArray.mk #[47]).size = 1 := rfl; omega)))]; try rfl) | kernel_rfl
  try simp only [Act.put, List.setIfInBounds_toArray, List.set_cons_zero, List.set_cons_succ]
  refine wpAnyH_ready (rs := [1]) (by kernel_rfl) (by simp) (AllReadyH.cons ((List.getElem?_toArray ..).trans rfl) (fun KK hKK => ?_) AllReadyH.nil)
  go_simp
  refine (S.call (rof_any 1 3 _ (by decide) (by decide) (by decide) (by decide) (by decide) qt qt_is)).mono ?_; clear S; rintro e w15 ⟨⟨_, rfl, bU, pU, lU, KU, qU, jU, JU, rfl, hU, nU, dU⟩, S, H⟩; replace nA := nA.hold H; replace nB := nB.hold H; replace nG := nG.hold H; replace nD := nD.hold H; replace nP := nP.hold H; replace nX := nX.hold H; replace nY := nY.hold H; replace nL := nL.hold H; replace nM := nM.hold H; replace nR := nR.hold H; replace dR := dR.hold H; clear H
  go_wp2_with fail
  refine hKK.out _ _ ⟨S.c 7 0 rfl rfl, S.c 7 1 rfl rfl, S.c 7 2 rfl rfl⟩ (fun hS => ?_)
  clear hKK KK
  try simp only [Act.put, List.setIfInBounds_toArray, List.set_cons_zero, List.set_cons_succ]
  refine wpAnyH_ready (rs := [2]) (by kernel_rfl) (by simp) (AllReadyH.cons ((List.getElem?_toArray ..).trans rfl) (fun KK hKK => ?_) AllReadyH.nil)
  go_simp
  refine (S.call (dcmp_any (k1 := 20) (k2 := 1) ⟨bL, pL, lL, KL, mL, eL, rfl, hL, nL, dL⟩ ⟨bU, pU, lU, KU, qU, jU, JU, rfl, hU, nU, dU⟩ (by decide) (by decide) qt_rb (by decide) (-1) qlt_cmp)).mono ?_; clear S; rintro e w16 ⟨rfl, S, H⟩; replace nA := nA.hold H; replace nB := nB.hold H; replace nG := nG.hold H; replace nD := nD.hold H; replace nP := nP.hold H; replace nX := nX.hold H; replace nY := nY.hold H; replace nL := nL.hold H; replace nM := nM.hold H; replace nR := nR.hold H; replace dR := dR.hold H; replace nU := nU.hold H; replace dU := dU.hold H; clear H
  go_wp2_with fail
  refine hKK.out _ _ ⟨S.c 7 0 rfl rfl, S.c 7 1 rfl rfl, S.c 7 2 rfl rfl⟩ (fun hS => ?_)
  clear hKK KK
  try simp only [Act.put, List.setIfInBounds_toArray, List.set_cons_zero, List.set_cons_succ]
  refine wpAnyH_take (i := 3) (v := ?_) ((List.getElem?_toArray ..).trans rfl) (by kernel_rfl) (by kernel_rfl) (by kernel_rfl) (fun _ _ _ h => h) (Or.inl ⟨rfl, fun W hW => ?_⟩) hS ?_
  rotate_left
  · obtain ⟨hW0, hW1, hW2⟩ := hW; go_simp; try first | rfl | (rw [if_neg (by first | omega | (simp only [ByteArray.size_append]; first | omega | (have h1 : (ByteArray.mk #[47]).size = 1 := rfl; omega)))]; try rfl) | kernel_rfl
  try simp only [Act.put, List.setIfInBounds_toArray, List.set_cons_zero, List.set_cons_succ]
  refine wpAnyH_take (i := 4) (v := ?_) ((List.getElem?_toArray ..).trans rfl) (by kernel_rfl) (by kernel_rfl) (by kernel_rfl) (fun _ _ _ h => h) (Or.inl ⟨rfl, fun W hW => ?_⟩) hS ?_
  rotate_left
  · obtain ⟨hW0, hW1, hW2⟩ := hW; go_simp; try first | rfl | (rw [if_neg (by first | omega | (simp only [ByteArray.size_append]; first | omega | (have h1 : (ByteArray.mk #[47]).size = 1 := rfl; omega)))]; try rfl) | kernel_rfl
  try simp only [Act.put, List.setIfInBounds_toArray, List.set_cons_zero, List.set_cons_succ]
  refine wpAnyH_take (i := 5) (v := ?_) ((List.getElem?_toArray ..).trans rfl) (by kernel_rfl) (by kernel_rfl) (by kernel_rfl) (fun _ _ _ h => h) (Or.inl ⟨rfl, fun W hW => ?_⟩) hS ?_
  rotate_left
  · obtain ⟨hW0, hW1, hW2⟩ := hW; go_simp; try first | rfl | (rw [if_neg (by first | omega | (simp only [ByteArray.size_append]; first | omega | (have h1 : (ByteArray.mk #[47]).size = 1 := rfl; omega)))]; try rfl) | kernel_rfl
  try simp only [Act.put, List.setIfInBounds_toArray, List.set_cons_zero, List.set_cons_succ]
  refine wpAnyH_ready (rs := [6]) (by kernel_rfl) (by simp) (AllReadyH.cons ((List.getElem?_toArray ..).trans rfl) (fun KK hKK => ?_) AllReadyH.nil)
  go_simp
  refine hKK.out _ _ ⟨S.c 7 0 rfl rfl, S.c 7 1 rfl rfl, S.c 7 2 rfl rfl⟩ (fun hS => ?_)
  clear hKK KK
  try simp only [Act.put, List.setIfInBounds_toArray, List.set_cons_zero, List.set_cons_succ]
  refine wpAnyH_ready (rs := [7]) (by kernel_rfl) (by simp) (AllReadyH.cons ((List.getElem?_toArray ..).trans rfl) (fun KK hKK => ?_) AllReadyH.nil)
  go_simp
  refine hKK.out _ _ ⟨S.c 7 0 rfl rfl, S.c 7 1 rfl rfl, S.c 7 2 rfl rfl⟩ (fun hS => ?_)
  clear hKK KK
  try simp only [Act.put, List.setIfInBounds_toArray, List.set_cons_zero, List.set_cons_succ]
  refine wpAnyH_done (by kernel_rfl) ?_ _
  clear nU dU
  go_wp2_with fail
  generalize (.tuple #[.agg #[.bool bR, .slice pR lR KR, .slice qR jR JR], .int .i64 0] : Value) = g8
  refine (S.call (wof_any 12 _ (by decide) (by decide))).mono ?_
  clear S
  rintro e w17 ⟨⟨_, rfl, po, lo, Ko, rfl, no⟩, S, H⟩
  replace nA := nA.hold H
  replace nB := nB.hold H
  replace nG := nG.hold H
  replace nD := nD.hold H
  replace nP := nP.hold H
  replace nX := nX.hold H
  replace nY := nY.hold H
  replace nL := nL.hold H
  replace nM := nM.hold H
  replace nR := nR.hold H
  replace dR := dR.hold H
  clear H
  go_wp2_with fail
  refine (S.call (dmake_any (HT.out.below S.below) ⟨_, _, _, rfl, no⟩ (zf_small (by decide) (by decide) (by decide) (by decide) : ZF 12 1 100 164) (by decide) qy qy_dq)).mono ?_
  clear S
  rintro e w18 ⟨⟨_, rfl, bZ, pZ, lZ, KZ, mZ, eZ, rfl, hZ, nZ, dZ⟩, S, H⟩
  replace nA := nA.hold H
  replace nB := nB.hold H
  replace nG := nG.hold H
  replace nD := nD.hold H
  replace nP := nP.hold H
  replace nX := nX.hold H
  replace nY := nY.hold H
  replace nL := nL.hold H
  replace nM := nM.hold H
  replace nR := nR.hold H
  replace dR := dR.hold H
  replace no := no.hold H
  clear H
  have hZ3 : eZ = 3 := (dyf_at dZ.out (.inr rfl : DyC 3 3) qy_dq2).2
  subst hZ3
  clear no
  have H := S.hnew 27 [.bool bZ, .slice pZ lZ KZ, .int .i64 3]
  replace S := S.alloc 27 [.bool bZ, .slice pZ lZ KZ, .int .i64 3] (w18.heap.size)
  try simp only [List.cons_append, List.nil_append] at S
  replace nA := nA.hold H
  replace nB := nB.hold H
  replace nG := nG.hold H
  replace nD := nD.hold H
  replace nP := nP.hold H
  replace nX := nX.hold H
  replace nY := nY.hold H
  replace nL := nL.hold H
  replace nM := nM.hold H
  replace nR := nR.hold H
  replace dR := dR.hold H
  replace nZ := nZ.hold H
  clear H
  have c0_0 := S.c 0 0 rfl rfl
  have c0_1 := S.c 0 1 rfl rfl
  have c0_2 := S.c 0 2 rfl rfl
  go_wp2_with fail
  generalize (.tuple #[.agg #[.bool bZ, .slice pZ lZ KZ, .int .i64 3], .int .i64 0] : Value) = g9
  clear c0_0 c0_1 c0_2
  refine (S.call (dround_bad (b := bA) (p := pA) (l := lA) (K := KA) (e := eA) 1 (.inl (by decide)) true)).mono ?_
  clear S
  rintro e w19 ⟨rfl, S, H⟩
  replace nA := nA.hold H
  replace nB := nB.hold H
  replace nG := nG.hold H
  replace nD := nD.hold H
  replace nP := nP.hold H
  replace nX := nX.hold H
  replace nY := nY.hold H
  replace nL := nL.hold H
  replace nM := nM.hold H
  replace nR := nR.hold H
  replace dR := dR.hold H
  replace nZ := nZ.hold H
  clear H
  have c0_0 := S.c 0 0 rfl rfl
  have c0_1 := S.c 0 1 rfl rfl
  have c0_2 := S.c 0 2 rfl rfl
  have H := S.hnew 27 [.bool false, .slice none 0 0, .int .i64 0]
  replace S := S.alloc 27 [.bool false, .slice none 0 0, .int .i64 0] (w19.heap.size)
  try simp only [List.cons_append, List.nil_append] at S
  replace nA := nA.hold H
  replace nB := nB.hold H
  replace nG := nG.hold H
  replace nD := nD.hold H
  replace nP := nP.hold H
  replace nX := nX.hold H
  replace nY := nY.hold H
  replace nL := nL.hold H
  replace nM := nM.hold H
  replace nR := nR.hold H
  replace dR := dR.hold H
  replace nZ := nZ.hold H
  clear H
  clear c0_0 c0_1 c0_2
  have c2_0 := S.c 2 0 rfl rfl
  have c2_1 := S.c 2 1 rfl rfl
  have c2_2 := S.c 2 2 rfl rfl
  go_wp2_with fail
  clear c2_0 c2_1 c2_2
  refine (S.call (dis_yes (k := 20) (HT.out.below S.below) ⟨bG, pG, lG, KG, mG, eG, rfl, hG, nG, dG⟩ (-5) 2 (by decide) (by decide) (by decide) (by decide) qs_is (by decide) (by decide) qs_rb)).mono ?_
  clear S
  rintro e w20 ⟨rfl, S, H⟩
  replace nA := nA.hold H
  replace nB := nB.hold H
  replace nG := nG.hold H
  replace nD := nD.hold H
  replace nP := nP.hold H
  replace nX := nX.hold H
  replace nY := nY.hold H
  replace nL := nL.hold H
  replace nM := nM.hold H
  replace nR := nR.hold H
  replace dR := dR.hold H
  replace nZ := nZ.hold H
  clear H
  have c2_0 := S.c 2 0 rfl rfl
  have c2_1 := S.c 2 1 rfl rfl
  have c2_2 := S.c 2 2 rfl rfl
  clear c2_0 c2_1 c2_2
  have c3_0 := S.c 3 0 rfl rfl
  have c3_1 := S.c 3 1 rfl rfl
  have c3_2 := S.c 3 2 rfl rfl
  go_wp2_with fail
  clear c3_0 c3_1 c3_2
  refine (S.call (dis_yes (k := 20) (HT.out.below S.below) ⟨bD, pD, lD, KD, mD, eD, rfl, hD, nD, dD⟩ (11) 2 (by decide) (by decide) (by decide) (by decide) qd_is (by decide) (by decide) qd_rb)).mono ?_
  clear S
  rintro e w21 ⟨rfl, S, H⟩
  replace nA := nA.hold H
  replace nB := nB.hold H
  replace nG := nG.hold H
  replace nD := nD.hold H
  replace nP := nP.hold H
  replace nX := nX.hold H
  replace nY := nY.hold H
  replace nL := nL.hold H
  replace nM := nM.hold H
  replace nR := nR.hold H
  replace dR := dR.hold H
  replace nZ := nZ.hold H
  clear H
  have c3_0 := S.c 3 0 rfl rfl
  have c3_1 := S.c 3 1 rfl rfl
  have c3_2 := S.c 3 2 rfl rfl
  clear c3_0 c3_1 c3_2
  have c4_0 := S.c 4 0 rfl rfl
  have c4_1 := S.c 4 1 rfl rfl
  have c4_2 := S.c 4 2 rfl rfl
  go_wp2_with fail
  clear c4_0 c4_1 c4_2
  refine (S.call (dis_yes (k := 20) (HT.out.below S.below) ⟨bP, pP, lP, KP, mP, eP, rfl, hP, nP, dP⟩ (-6) 1 (by decide) (by decide) (by decide) (by decide) qp_is (by decide) (by decide) qp_rb)).mono ?_
  clear S
  rintro e w22 ⟨rfl, S, H⟩
  replace nA := nA.hold H
  replace nB := nB.hold H
  replace nG := nG.hold H
  replace nD := nD.hold H
  replace nP := nP.hold H
  replace nX := nX.hold H
  replace nY := nY.hold H
  replace nL := nL.hold H
  replace nM := nM.hold H
  replace nR := nR.hold H
  replace dR := dR.hold H
  replace nZ := nZ.hold H
  clear H
  have c4_0 := S.c 4 0 rfl rfl
  have c4_1 := S.c 4 1 rfl rfl
  have c4_2 := S.c 4 2 rfl rfl
  clear c4_0 c4_1 c4_2
  have c5_0 := S.c 5 0 rfl rfl
  have c5_1 := S.c 5 1 rfl rfl
  have c5_2 := S.c 5 2 rfl rfl
  go_wp2_with fail
  clear c5_0 c5_1 c5_2
  refine (S.call (dis_yes (k := 20) (HT.out.below S.below) ⟨bX, pX, lX, KX, mX, eX, rfl, hX, nX, dX⟩ (20) 1 (by decide) (by decide) (by decide) (by decide) qx_is (by decide) (by decide) qx_rb)).mono ?_
  clear S
  rintro e w23 ⟨rfl, S, H⟩
  replace nA := nA.hold H
  replace nB := nB.hold H
  replace nG := nG.hold H
  replace nD := nD.hold H
  replace nP := nP.hold H
  replace nX := nX.hold H
  replace nY := nY.hold H
  replace nL := nL.hold H
  replace nM := nM.hold H
  replace nR := nR.hold H
  replace dR := dR.hold H
  replace nZ := nZ.hold H
  clear H
  have c5_0 := S.c 5 0 rfl rfl
  have c5_1 := S.c 5 1 rfl rfl
  have c5_2 := S.c 5 2 rfl rfl
  clear c5_0 c5_1 c5_2
  have c6_0 := S.c 6 0 rfl rfl
  have c6_1 := S.c 6 1 rfl rfl
  have c6_2 := S.c 6 2 rfl rfl
  go_wp2_with fail
  clear c6_0 c6_1 c6_2
  refine (S.call (dis_yes (k := 20) (HT.out.below S.below) ⟨bY, pY, lY, KY, mY, eY, rfl, hY, nY, dY⟩ (24) 1 (by decide) (by decide) (by decide) (by decide) qy_is (by decide) (by decide) qy_rb)).mono ?_
  clear S
  rintro e w24 ⟨rfl, S, H⟩
  replace nA := nA.hold H
  replace nB := nB.hold H
  replace nG := nG.hold H
  replace nD := nD.hold H
  replace nP := nP.hold H
  replace nX := nX.hold H
  replace nY := nY.hold H
  replace nL := nL.hold H
  replace nM := nM.hold H
  replace nR := nR.hold H
  replace dR := dR.hold H
  replace nZ := nZ.hold H
  clear H
  have c6_0 := S.c 6 0 rfl rfl
  have c6_1 := S.c 6 1 rfl rfl
  have c6_2 := S.c 6 2 rfl rfl
  clear c6_0 c6_1 c6_2
  have c7_0 := S.c 7 0 rfl rfl
  have c7_1 := S.c 7 1 rfl rfl
  have c7_2 := S.c 7 2 rfl rfl
  go_wp2_with fail
  clear c7_0 c7_1 c7_2
  refine (S.call (dis_yes (k := 20) (HT.out.below S.below) ⟨bL, pL, lL, KL, mL, eL, rfl, hL, nL, dL⟩ (5) 16 (by decide) (by decide) (by decide) (by decide) ql_is (by decide) (by decide) ql_rb)).mono ?_
  clear S
  rintro e w25 ⟨rfl, S, H⟩
  replace nA := nA.hold H
  replace nB := nB.hold H
  replace nG := nG.hold H
  replace nD := nD.hold H
  replace nP := nP.hold H
  replace nX := nX.hold H
  replace nY := nY.hold H
  replace nL := nL.hold H
  replace nM := nM.hold H
  replace nR := nR.hold H
  replace dR := dR.hold H
  replace nZ := nZ.hold H
  clear H
  have c7_0 := S.c 7 0 rfl rfl
  have c7_1 := S.c 7 1 rfl rfl
  have c7_2 := S.c 7 2 rfl rfl
  clear c7_0 c7_1 c7_2
  have c8_0 := S.c 8 0 rfl rfl
  have c8_1 := S.c 8 1 rfl rfl
  have c8_2 := S.c 8 2 rfl rfl
  go_wp2_with fail
  clear c8_0 c8_1 c8_2
  refine (S.call (dis_yes (k := 20) (HT.out.below S.below) ⟨bM, pM, lM, KM, mM, eM, rfl, hM, nM, dM⟩ (11) 32 (by decide) (by decide) (by decide) (by decide) qm_is (by decide) (by decide) qm_rb)).mono ?_
  clear S
  rintro e w26 ⟨rfl, S, H⟩
  replace nA := nA.hold H
  replace nB := nB.hold H
  replace nG := nG.hold H
  replace nD := nD.hold H
  replace nP := nP.hold H
  replace nX := nX.hold H
  replace nY := nY.hold H
  replace nL := nL.hold H
  replace nM := nM.hold H
  replace nR := nR.hold H
  replace dR := dR.hold H
  replace nZ := nZ.hold H
  clear H
  have c8_0 := S.c 8 0 rfl rfl
  have c8_1 := S.c 8 1 rfl rfl
  have c8_2 := S.c 8 2 rfl rfl
  clear c8_0 c8_1 c8_2
  have c9_0 := S.c 9 0 rfl rfl
  have c9_1 := S.c 9 1 rfl rfl
  have c9_2 := S.c 9 2 rfl rfl
  go_wp2_with fail
  clear c9_0 c9_1 c9_2
  refine (S.call (rtext_lit ⟨bR, pR, lR, KR, qR, jR, JR, rfl, hR, nR, dR⟩ ⟨#[51, 47, 50]⟩ (rb_max qa_rb (by decide)) qa_text)).mono ?_
  clear S
  rintro e w27 ⟨rfl, S, H⟩
  replace nA := nA.hold H
  replace nB := nB.hold H
  replace nG := nG.hold H
  replace nD := nD.hold H
  replace nP := nP.hold H
  replace nX := nX.hold H
  replace nY := nY.hold H
  replace nL := nL.hold H
  replace nM := nM.hold H
  replace nR := nR.hold H
  replace dR := dR.hold H
  replace nZ := nZ.hold H
  clear H
  have c9_0 := S.c 9 0 rfl rfl
  have c9_1 := S.c 9 1 rfl rfl
  have c9_2 := S.c 9 2 rfl rfl
  clear c9_0 c9_1 c9_2
  have c1_0 := S.c 1 0 rfl rfl
  have c1_1 := S.c 1 1 rfl rfl
  have c1_2 := S.c 1 2 rfl rfl
  have c10_0 := S.c 10 0 rfl rfl
  have c10_1 := S.c 10 1 rfl rfl
  have c10_2 := S.c 10 2 rfl rfl
  go_wp2_with fail
  clear c1_0 c1_1 c1_2 c10_0 c10_1 c10_2
  refine (S.call (dsign_any ⟨bB, pB, lB, KB, mB, eB, rfl, hB, nB, dB⟩ (by decide) qb_sgn)).mono ?_
  clear S
  rintro e w28 ⟨rfl, S, H⟩
  replace nA := nA.hold H
  replace nB := nB.hold H
  replace nG := nG.hold H
  replace nD := nD.hold H
  replace nP := nP.hold H
  replace nX := nX.hold H
  replace nY := nY.hold H
  replace nL := nL.hold H
  replace nM := nM.hold H
  replace nR := nR.hold H
  replace dR := dR.hold H
  replace nZ := nZ.hold H
  clear H
  have c1_0 := S.c 1 0 rfl rfl
  have c1_1 := S.c 1 1 rfl rfl
  have c1_2 := S.c 1 2 rfl rfl
  have c10_0 := S.c 10 0 rfl rfl
  have c10_1 := S.c 10 1 rfl rfl
  have c10_2 := S.c 10 2 rfl rfl
  clear c1_0 c1_1 c1_2 c10_0 c10_1 c10_2
  have c1_0 := S.c 1 0 rfl rfl
  have c1_1 := S.c 1 1 rfl rfl
  have c1_2 := S.c 1 2 rfl rfl
  go_wp2_with fail
  clear c1_0 c1_1 c1_2
  refine (S.call (dneg_any ⟨bB, pB, lB, KB, mB, eB, rfl, hB, nB, dB⟩ (by decide))).mono ?_
  clear S
  rintro e w29 ⟨⟨_, rfl, bN, pN, lN, KN, mN, eN, rfl, hN, nN, dN⟩, S, H⟩
  replace nA := nA.hold H
  replace nB := nB.hold H
  replace nG := nG.hold H
  replace nD := nD.hold H
  replace nP := nP.hold H
  replace nX := nX.hold H
  replace nY := nY.hold H
  replace nL := nL.hold H
  replace nM := nM.hold H
  replace nR := nR.hold H
  replace dR := dR.hold H
  replace nZ := nZ.hold H
  clear H
  have c1_0 := S.c 1 0 rfl rfl
  have c1_1 := S.c 1 1 rfl rfl
  have c1_2 := S.c 1 2 rfl rfl
  clear c1_0 c1_1 c1_2
  go_wp2_with fail
  refine (S.call (dis_yes (k := 20) (HT.out.below S.below) ⟨bN, pN, lN, KN, mN, eN, rfl, hN, nN, dN⟩ 4 1 (by decide) (by decide) (by decide) (by decide) (qb_neg.trans q4_is) (by decide) (by decide) (by rw [qb_neg]; exact q4_rb))).mono ?_
  clear S
  rintro e w30 ⟨rfl, S, H⟩
  replace nA := nA.hold H
  replace nB := nB.hold H
  replace nG := nG.hold H
  replace nD := nD.hold H
  replace nP := nP.hold H
  replace nX := nX.hold H
  replace nY := nY.hold H
  replace nL := nL.hold H
  replace nM := nM.hold H
  replace nR := nR.hold H
  replace dR := dR.hold H
  replace nZ := nZ.hold H
  replace nN := nN.hold H
  clear H
  have c1_0 := S.c 1 0 rfl rfl
  have c1_1 := S.c 1 1 rfl rfl
  have c1_2 := S.c 1 2 rfl rfl
  go_wp2_with fail
  clear c1_0 c1_1 c1_2
  refine (S.call (dabs_any ⟨bB, pB, lB, KB, mB, eB, rfl, hB, nB, dB⟩ (by decide))).mono ?_
  clear S
  rintro e w31 ⟨⟨_, rfl, bO, pO, lO, KO, mO, eO, rfl, hO, nO, dO⟩, S, H⟩
  replace nA := nA.hold H
  replace nB := nB.hold H
  replace nG := nG.hold H
  replace nD := nD.hold H
  replace nP := nP.hold H
  replace nX := nX.hold H
  replace nY := nY.hold H
  replace nL := nL.hold H
  replace nM := nM.hold H
  replace nR := nR.hold H
  replace dR := dR.hold H
  replace nZ := nZ.hold H
  replace nN := nN.hold H
  clear H
  have c1_0 := S.c 1 0 rfl rfl
  have c1_1 := S.c 1 1 rfl rfl
  have c1_2 := S.c 1 2 rfl rfl
  clear c1_0 c1_1 c1_2
  go_wp2_with fail
  refine (S.call (dis_yes (k := 20) (HT.out.below S.below) ⟨bO, pO, lO, KO, mO, eO, rfl, hO, nO, dO⟩ 4 1 (by decide) (by decide) (by decide) (by decide) (qb_abs.trans q4_is) (by decide) (by decide) (by rw [qb_abs]; exact q4_rb))).mono ?_
  clear S
  rintro e w32 ⟨rfl, S, H⟩
  replace nA := nA.hold H
  replace nB := nB.hold H
  replace nG := nG.hold H
  replace nD := nD.hold H
  replace nP := nP.hold H
  replace nX := nX.hold H
  replace nY := nY.hold H
  replace nL := nL.hold H
  replace nM := nM.hold H
  replace nR := nR.hold H
  replace dR := dR.hold H
  replace nZ := nZ.hold H
  replace nN := nN.hold H
  replace nO := nO.hold H
  clear H
  have c0_0 := S.c 0 0 rfl rfl
  have c0_1 := S.c 0 1 rfl rfl
  have c0_2 := S.c 0 2 rfl rfl
  have c1_0 := S.c 1 0 rfl rfl
  have c1_1 := S.c 1 1 rfl rfl
  have c1_2 := S.c 1 2 rfl rfl
  go_wp2_with fail
  clear c0_0 c0_1 c0_2 c1_0 c1_1 c1_2
  refine (S.call (dless_any ⟨bB, pB, lB, KB, mB, eB, rfl, hB, nB, dB⟩ ⟨bA, pA, lA, KA, mA, eA, rfl, hA, nA, dA⟩ (by decide) true qba_lt)).mono ?_
  clear S
  rintro e w33 ⟨rfl, S, H⟩
  replace nA := nA.hold H
  replace nB := nB.hold H
  replace nG := nG.hold H
  replace nD := nD.hold H
  replace nP := nP.hold H
  replace nX := nX.hold H
  replace nY := nY.hold H
  replace nL := nL.hold H
  replace nM := nM.hold H
  replace nR := nR.hold H
  replace dR := dR.hold H
  replace nZ := nZ.hold H
  replace nN := nN.hold H
  replace nO := nO.hold H
  clear H
  have c0_0 := S.c 0 0 rfl rfl
  have c0_1 := S.c 0 1 rfl rfl
  have c0_2 := S.c 0 2 rfl rfl
  have c1_0 := S.c 1 0 rfl rfl
  have c1_1 := S.c 1 1 rfl rfl
  have c1_2 := S.c 1 2 rfl rfl
  clear c0_0 c0_1 c0_2 c1_0 c1_1 c1_2
  have c0_0 := S.c 0 0 rfl rfl
  have c0_1 := S.c 0 1 rfl rfl
  have c0_2 := S.c 0 2 rfl rfl
  have c1_0 := S.c 1 0 rfl rfl
  have c1_1 := S.c 1 1 rfl rfl
  have c1_2 := S.c 1 2 rfl rfl
  go_wp2_with fail
  clear c0_0 c0_1 c0_2 c1_0 c1_1 c1_2
  refine (S.call (dmax_any ⟨bA, pA, lA, KA, mA, eA, rfl, hA, nA, dA⟩ ⟨bB, pB, lB, KB, mB, eB, rfl, hB, nB, dB⟩ (by decide))).mono ?_
  clear S
  rintro e w34 ⟨⟨_, rfl, bV, pV, lV, KV, mV, eV, rfl, hV, nV, dV⟩, S, H⟩
  replace nA := nA.hold H
  replace nB := nB.hold H
  replace nG := nG.hold H
  replace nD := nD.hold H
  replace nP := nP.hold H
  replace nX := nX.hold H
  replace nY := nY.hold H
  replace nL := nL.hold H
  replace nM := nM.hold H
  replace nR := nR.hold H
  replace dR := dR.hold H
  replace nZ := nZ.hold H
  replace nN := nN.hold H
  replace nO := nO.hold H
  clear H
  have c0_0 := S.c 0 0 rfl rfl
  have c0_1 := S.c 0 1 rfl rfl
  have c0_2 := S.c 0 2 rfl rfl
  have c1_0 := S.c 1 0 rfl rfl
  have c1_1 := S.c 1 1 rfl rfl
  have c1_2 := S.c 1 2 rfl rfl
  clear c0_0 c0_1 c0_2 c1_0 c1_1 c1_2
  go_wp2_with fail
  refine (S.call (dis_yes (k := 20) (HT.out.below S.below) ⟨bV, pV, lV, KV, mV, eV, rfl, hV, nV, dV⟩ 3 2 (by decide) (by decide) (by decide) (by decide) (qab_max.trans qa_is) (by decide) (by decide) (by rw [qab_max]; exact qa_rb))).mono ?_
  clear S
  rintro e w35 ⟨rfl, S, H⟩
  replace nA := nA.hold H
  replace nB := nB.hold H
  replace nG := nG.hold H
  replace nD := nD.hold H
  replace nP := nP.hold H
  replace nX := nX.hold H
  replace nY := nY.hold H
  replace nL := nL.hold H
  replace nM := nM.hold H
  replace nR := nR.hold H
  replace dR := dR.hold H
  replace nZ := nZ.hold H
  replace nN := nN.hold H
  replace nO := nO.hold H
  replace nV := nV.hold H
  clear H
  have c0_0 := S.c 0 0 rfl rfl
  have c0_1 := S.c 0 1 rfl rfl
  have c0_2 := S.c 0 2 rfl rfl
  have c1_0 := S.c 1 0 rfl rfl
  have c1_1 := S.c 1 1 rfl rfl
  have c1_2 := S.c 1 2 rfl rfl
  go_wp2_with fail
  clear c0_0 c0_1 c0_2 c1_0 c1_1 c1_2
  refine (S.call (dmin_any ⟨bA, pA, lA, KA, mA, eA, rfl, hA, nA, dA⟩ ⟨bB, pB, lB, KB, mB, eB, rfl, hB, nB, dB⟩ (by decide))).mono ?_
  clear S
  rintro e w36 ⟨⟨_, rfl, bW, pW, lW, KW, mW, eW, rfl, hW, nW, dW⟩, S, H⟩
  replace nA := nA.hold H
  replace nB := nB.hold H
  replace nG := nG.hold H
  replace nD := nD.hold H
  replace nP := nP.hold H
  replace nX := nX.hold H
  replace nY := nY.hold H
  replace nL := nL.hold H
  replace nM := nM.hold H
  replace nR := nR.hold H
  replace dR := dR.hold H
  replace nZ := nZ.hold H
  replace nN := nN.hold H
  replace nO := nO.hold H
  replace nV := nV.hold H
  clear H
  have c0_0 := S.c 0 0 rfl rfl
  have c0_1 := S.c 0 1 rfl rfl
  have c0_2 := S.c 0 2 rfl rfl
  have c1_0 := S.c 1 0 rfl rfl
  have c1_1 := S.c 1 1 rfl rfl
  have c1_2 := S.c 1 2 rfl rfl
  clear c0_0 c0_1 c0_2 c1_0 c1_1 c1_2
  go_wp2_with fail
  refine (S.call (dis_yes (k := 20) (HT.out.below S.below) ⟨bW, pW, lW, KW, mW, eW, rfl, hW, nW, dW⟩ (-4) 1 (by decide) (by decide) (by decide) (by decide) (qab_min.trans qb_is) (by decide) (by decide) (by rw [qab_min]; exact qb_rb))).mono ?_
  clear S
  rintro e w37 ⟨rfl, S, H⟩
  replace nA := nA.hold H
  replace nB := nB.hold H
  replace nG := nG.hold H
  replace nD := nD.hold H
  replace nP := nP.hold H
  replace nX := nX.hold H
  replace nY := nY.hold H
  replace nL := nL.hold H
  replace nM := nM.hold H
  replace nR := nR.hold H
  replace dR := dR.hold H
  replace nZ := nZ.hold H
  replace nN := nN.hold H
  replace nO := nO.hold H
  replace nV := nV.hold H
  replace nW := nW.hold H
  clear H
  have c0_0 := S.c 0 0 rfl rfl
  have c0_1 := S.c 0 1 rfl rfl
  have c0_2 := S.c 0 2 rfl rfl
  go_wp2_with fail
  clear c0_0 c0_1 c0_2
  refine (S.call (dcompare_any ⟨bA, pA, lA, KA, mA, eA, rfl, hA, nA, dA⟩ ⟨bA, pA, lA, KA, mA, eA, rfl, hA, nA, dA⟩ (by decide) 0 (cmpR_eq qa))).mono ?_
  clear S
  rintro e w38 ⟨rfl, S, H⟩
  replace nA := nA.hold H
  replace nB := nB.hold H
  replace nG := nG.hold H
  replace nD := nD.hold H
  replace nP := nP.hold H
  replace nX := nX.hold H
  replace nY := nY.hold H
  replace nL := nL.hold H
  replace nM := nM.hold H
  replace nR := nR.hold H
  replace dR := dR.hold H
  replace nZ := nZ.hold H
  replace nN := nN.hold H
  replace nO := nO.hold H
  replace nV := nV.hold H
  replace nW := nW.hold H
  clear H
  have c0_0 := S.c 0 0 rfl rfl
  have c0_1 := S.c 0 1 rfl rfl
  have c0_2 := S.c 0 2 rfl rfl
  clear c0_0 c0_1 c0_2
  have c0_0 := S.c 0 0 rfl rfl
  have c0_1 := S.c 0 1 rfl rfl
  have c0_2 := S.c 0 2 rfl rfl
  go_wp2_with fail
  clear c0_0 c0_1 c0_2
  refine (S.call (dcheck_any (HT.out.below S.below) ⟨bA, pA, lA, KA, mA, eA, rfl, hA, nA, dA⟩ (by decide))).mono ?_
  clear S
  rintro e w39 ⟨rfl, S, H⟩
  replace nA := nA.hold H
  replace nB := nB.hold H
  replace nG := nG.hold H
  replace nD := nD.hold H
  replace nP := nP.hold H
  replace nX := nX.hold H
  replace nY := nY.hold H
  replace nL := nL.hold H
  replace nM := nM.hold H
  replace nR := nR.hold H
  replace dR := dR.hold H
  replace nZ := nZ.hold H
  replace nN := nN.hold H
  replace nO := nO.hold H
  replace nV := nV.hold H
  replace nW := nW.hold H
  clear H
  have c0_0 := S.c 0 0 rfl rfl
  have c0_1 := S.c 0 1 rfl rfl
  have c0_2 := S.c 0 2 rfl rfl
  clear c0_0 c0_1 c0_2
  go_wp2_with fail
  refine (S.call (dcheck_form _)).mono ?_
  clear S
  rintro e w40 ⟨rfl, S, H⟩
  replace nA := nA.hold H
  replace nB := nB.hold H
  replace nG := nG.hold H
  replace nD := nD.hold H
  replace nP := nP.hold H
  replace nX := nX.hold H
  replace nY := nY.hold H
  replace nL := nL.hold H
  replace nM := nM.hold H
  replace nR := nR.hold H
  replace dR := dR.hold H
  replace nZ := nZ.hold H
  replace nN := nN.hold H
  replace nO := nO.hold H
  replace nV := nV.hold H
  replace nW := nW.hold H
  clear H
  go_wp2_with fail
  exact bodyPost_ret (v := .bool true) (by simp [results, Tryd.f4, go_sem]) rfl (⟨rfl, S.below⟩)

end Go.Proofs.YtnkmcikjeicpfaaDoor

namespace Go.Proofs.YtnkmcikjeicpfaaDoor
open Go.RowKit

set_option maxRecDepth 100000 in
set_option maxHeartbeats 16000000 in
theorem dyadRounds_any (bA : Bool) (pA : Option Addr) (KA : Nat) (dsA : List Nat) (eA : Int) (n : Int) (up : Bool) (w : World) (hT : Tab w) (atA : At .u32 w pA KA dsA) (ddA : Dig 4294967296 dsA) (hn0 : -9223372036854775808 ≤ n) (hn1 : n ≤ 9223372036854775807) :
    Calls Tryd.prog 3 #[.agg #[.bool bA, .slice pA dsA.length KA, .int .i64 eA], .int .i64 n, .bool up] w fun e w' => e = .returned (.bool true) ∧ Below w.heap.size w w' := by
  have HT := Lib.hid hT
  have HDA := Lib.hid ddA
  obtain ⟨lA, hlA⟩ : ∃ l, dsA.length = l := ⟨_, rfl⟩
  have HLA := Lib.hid hlA
  rw [hlA]
  clear hT ddA hlA
  have S := (St.start w).alloc 27 [.bool bA, .slice pA lA KA, .int .i64 eA] (w.heap.size)
  try simp only [List.cons_append, List.nil_append] at S
  replace atA := atA.hold S.hold
  have c0_0 := S.c 0 0 rfl rfl
  have c0_1 := S.c 0 1 rfl rfl
  have c0_2 := S.c 0 2 rfl rfl
  go_enter Tryd.func3, Tryd.ntmps3
  go_wp2_with fail
  clear c0_0 c0_1 c0_2
  refine (S.call (halves_any _ (HT.out.below S.below))).mono ?_
  clear S
  rintro e w1 ⟨rfl, S, H⟩
  replace atA := atA.hold H
  clear H
  have c0_0 := S.c 0 0 rfl rfl
  have c0_1 := S.c 0 1 rfl rfl
  have c0_2 := S.c 0 2 rfl rfl
  have H := S.hnew 27 [.bool bA, .slice pA lA KA, .int .i64 eA]
  replace S := S.alloc 27 [.bool bA, .slice pA lA KA, .int .i64 eA] (w1.heap.size)
  try simp only [List.cons_append, List.nil_append] at S
  replace atA := atA.hold H
  clear H
  go_wp2_with fail
  clear c0_0 c0_1 c0_2
  refine (S.call (dfit_any _ 1 _ _ _ _ _ _ (HT.out.below S.below) (S.lt 1 rfl) (by decide) (draws1 S 1 rfl HLA.out atA HDA.out))).mono ?_
  clear S
  rintro e w2 ⟨⟨ok, rfl, hok⟩, S, H⟩
  replace atA := atA.hold H
  clear H
  have c0_0 := S.c 0 0 rfl rfl
  have c0_1 := S.c 0 1 rfl rfl
  have c0_2 := S.c 0 2 rfl rfl
  cases ok with
  | false =>
    go_wp2_with fail
    exact bodyPost_ret (v := .bool true) (by simp [results, Tryd.f3, go_sem]) rfl (⟨rfl, S.below⟩)
  | true =>
    have t := hok.out rfl
    obtain ⟨mA, zA, hA, nA, dA⟩ := tried_dy (b := bA) (e := eA) (t 0 (by decide)) HDA.out HLA.out atA (by decide)
    clear atA
    clear t hok
    by_cases hb1 : n < 2
    ·
      clear c0_0 c0_1 c0_2
      have c0_0 := S.c 0 0 rfl rfl
      have c0_1 := S.c 0 1 rfl rfl
      have c0_2 := S.c 0 2 rfl rfl
      go_wp2_with fail
      clear c0_0 c0_1 c0_2
      refine (S.call (dround_bad (b := bA) (p := pA) (l := lA) (K := KA) (e := eA) n (.inl hb1) up)).mono ?_
      clear S
      rintro e w3 ⟨rfl, S, H⟩
      replace nA := nA.hold H
      clear H
      have c0_0 := S.c 0 0 rfl rfl
      have c0_1 := S.c 0 1 rfl rfl
      have c0_2 := S.c 0 2 rfl rfl
      have H := S.hnew 27 [.bool false, .slice none 0 0, .int .i64 0]
      replace S := S.alloc 27 [.bool false, .slice none 0 0, .int .i64 0] (w3.heap.size)
      try simp only [List.cons_append, List.nil_append] at S
      replace nA := nA.hold H
      clear H
      clear c0_0 c0_1 c0_2
      have c0_0 := S.c 0 0 rfl rfl
      have c0_1 := S.c 0 1 rfl rfl
      have c0_2 := S.c 0 2 rfl rfl
      go_wp2_with fail
      exact bodyPost_ret (v := .bool true) (by simp [results, Tryd.f3, go_sem]) rfl (⟨rfl, S.below⟩)
    · by_cases hb2 : 4096 < n
      ·
        clear c0_0 c0_1 c0_2
        have c0_0 := S.c 0 0 rfl rfl
        have c0_1 := S.c 0 1 rfl rfl
        have c0_2 := S.c 0 2 rfl rfl
        go_wp2_with fail
        clear c0_0 c0_1 c0_2
        refine (S.call (dround_bad (b := bA) (p := pA) (l := lA) (K := KA) (e := eA) n (.inr hb2) up)).mono ?_
        clear S
        rintro e w3 ⟨rfl, S, H⟩
        replace nA := nA.hold H
        clear H
        have c0_0 := S.c 0 0 rfl rfl
        have c0_1 := S.c 0 1 rfl rfl
        have c0_2 := S.c 0 2 rfl rfl
        have H := S.hnew 27 [.bool false, .slice none 0 0, .int .i64 0]
        replace S := S.alloc 27 [.bool false, .slice none 0 0, .int .i64 0] (w3.heap.size)
        try simp only [List.cons_append, List.nil_append] at S
        replace nA := nA.hold H
        clear H
        clear c0_0 c0_1 c0_2
        have c0_0 := S.c 0 0 rfl rfl
        have c0_1 := S.c 0 1 rfl rfl
        have c0_2 := S.c 0 2 rfl rfl
        go_wp2_with fail
        exact bodyPost_ret (v := .bool true) (by simp [results, Tryd.f3, go_sem]) rfl (⟨rfl, S.below⟩)
      · obtain ⟨k, hk⟩ : ∃ k : Nat, (k : Int) = n := ⟨n.toNat, by omega⟩
        subst hk
        have hk2 : 2 ≤ k ∧ k ≤ 4096 := by omega
        have HK := Lib.hid hk2
        obtain ⟨y, hy⟩ : ∃ y, rnd mA eA k up = y := ⟨_, rfl⟩
        have HY := Lib.hid hy
        clear hk2 hy hn0 hn1
        clear c0_0 c0_1 c0_2
        have c0_0 := S.c 0 0 rfl rfl
        have c0_1 := S.c 0 1 rfl rfl
        have c0_2 := S.c 0 2 rfl rfl
        go_wp2_with fail
        clear c0_0 c0_1 c0_2
        refine (S.call (dround_any (HT.out.below S.below) hA nA dA (by decide) k HK.out.1 HK.out.2 up y HY.out)).mono ?_
        clear S
        rintro e w3 ⟨⟨_, rfl, bR, pR, lR, KR, mR, eR, rfl, hR, nR, dR⟩, S, H⟩
        replace nA := nA.hold H
        clear H
        have c0_0 := S.c 0 0 rfl rfl
        have c0_1 := S.c 0 1 rfl rfl
        have c0_2 := S.c 0 2 rfl rfl
        have H := S.hnew 27 [.bool bR, .slice pR lR KR, .int .i64 eR]
        replace S := S.alloc 27 [.bool bR, .slice pR lR KR, .int .i64 eR] (w3.heap.size)
        try simp only [List.cons_append, List.nil_append] at S
        replace nA := nA.hold H
        replace nR := nR.hold H
        clear H
        have hfr : decide ((nbits mR.natAbs : Int) ≤ (k : Int)) = true := decide_eq_true (by have := rnd_few HK.out.1 dA.out.1 dR.out.1 (dR.out.2.2.trans HY.out.symm); omega)
        have HR := Lib.hid hfr
        clear hfr
        clear c0_0 c0_1 c0_2
        have c2_0 := S.c 2 0 rfl rfl
        have c2_1 := S.c 2 1 rfl rfl
        have c2_2 := S.c 2 2 rfl rfl
        go_wp2_with fail
        generalize (.tuple #[.agg #[.bool bR, .slice pR lR KR, .int .i64 eR], .int .i64 0] : Value) = g1
        clear c2_0 c2_1 c2_2
        refine (S.call (dfew_any nR (dR.out.max (by decide)) (k : Int) true HR.out)).mono ?_
        clear S
        rintro e w4 ⟨rfl, S, H⟩
        replace nA := nA.hold H
        replace nR := nR.hold H
        clear H
        have c2_0 := S.c 2 0 rfl rfl
        have c2_1 := S.c 2 1 rfl rfl
        have c2_2 := S.c 2 2 rfl rfl
        clear c2_0 c2_1 c2_2
        have c2_0 := S.c 2 0 rfl rfl
        have c2_1 := S.c 2 1 rfl rfl
        have c2_2 := S.c 2 2 rfl rfl
        go_wp2_with fail
        clear c2_0 c2_1 c2_2
        refine (S.call (dcheck_any (HT.out.below S.below) ⟨bR, pR, lR, KR, mR, eR, rfl, hR, nR, dR⟩ (by decide))).mono ?_
        clear S
        rintro e w5 ⟨rfl, S, H⟩
        replace nA := nA.hold H
        replace nR := nR.hold H
        clear H
        have c2_0 := S.c 2 0 rfl rfl
        have c2_1 := S.c 2 1 rfl rfl
        have c2_2 := S.c 2 2 rfl rfl
        obtain ⟨c, hc⟩ : ∃ c, cmpR y zA = c := ⟨_, rfl⟩
        have HC := Lib.hid hc
        clear c2_0 c2_1 c2_2
        have c0_0 := S.c 0 0 rfl rfl
        have c0_1 := S.c 0 1 rfl rfl
        have c0_2 := S.c 0 2 rfl rfl
        have c2_0 := S.c 2 0 rfl rfl
        have c2_1 := S.c 2 1 rfl rfl
        have c2_2 := S.c 2 2 rfl rfl
        go_wp2_with fail
        clear c0_0 c0_1 c0_2 c2_0 c2_1 c2_2
        refine (S.call (dcompare_any (L := 300) (H := 781) ⟨bR, pR, lR, KR, mR, eR, rfl, hR, nR, dR⟩ (IsD.mono ⟨bA, pA, lA, KA, mA, eA, rfl, hA, nA, dA⟩ (L := 300) (H := 780) (L' := 300) (H' := 781) (by decide) (by decide)) (by decide) c HC.out)).mono ?_
        clear S
        rintro e w6 ⟨rfl, S, H⟩
        replace nA := nA.hold H
        replace nR := nR.hold H
        clear H
        have c0_0 := S.c 0 0 rfl rfl
        have c0_1 := S.c 0 1 rfl rfl
        have c0_2 := S.c 0 2 rfl rfl
        have c2_0 := S.c 2 0 rfl rfl
        have c2_1 := S.c 2 1 rfl rfl
        have c2_2 := S.c 2 2 rfl rfl
        by_cases hfew : nbits mA.natAbs ≤ k
        · have hc0 : c = 0 := by rw [← hc, ← HY.out, rnd_same hfew, dA.out.2.2]; exact cmpR_eq _
          subst hc0
          have HF := Lib.hid (show decide ((nbits mA.natAbs : Int) ≤ (k : Int)) = true from decide_eq_true (by omega))
          clear hc hfew
          clear c0_0 c0_1 c0_2 c2_0 c2_1 c2_2
          have c0_0 := S.c 0 0 rfl rfl
          have c0_1 := S.c 0 1 rfl rfl
          have c0_2 := S.c 0 2 rfl rfl
          go_wp2_with fail
          clear c0_0 c0_1 c0_2
          refine (S.call (dfew_any nA (dA.out.max (by decide)) (k : Int) true HF.out)).mono ?_
          clear S
          rintro e w7 ⟨rfl, S, H⟩
          replace nA := nA.hold H
          replace nR := nR.hold H
          clear H
          have c0_0 := S.c 0 0 rfl rfl
          have c0_1 := S.c 0 1 rfl rfl
          have c0_2 := S.c 0 2 rfl rfl
          go_wp2_with fail
          exact bodyPost_ret (v := .bool true) (by simp [results, Tryd.f3, go_sem]) rfl (⟨rfl, S.below⟩)
        · have HF := Lib.hid (show decide ((nbits mA.natAbs : Int) ≤ (k : Int)) = false from decide_eq_false (by omega))
          obtain ⟨t, ht⟩ : ∃ t, nbits mA.natAbs = t := ⟨_, rfl⟩
          have hm0 : mA ≠ 0 := by intro e0; rw [e0] at hfew; simp [nbits] at hfew
          have htop := dyf_top dA.out hm0
          have hoff := rnd_off dA.out.1 (n := k) (by omega) up
          have hex := dA.out.exp
          have htl := nbits_pb (n := mA.natAbs) (by omega) dA.out.2.1.size
          rw [ht] at htop htl
          rw [ht, HY.out, dA.out.2.2] at hoff
          obtain ⟨f, hf⟩ : ∃ f, eA + ((t - k : Nat) : Int) = f := ⟨_, rfl⟩
          rw [hf] at hoff
          have hw1 : IntKind.i64.wrap (eA + (t : Int)) = eA + (t : Int) := wrap_int (by omega) (by omega)
          have hw2 : IntKind.i64.wrap (eA + (t : Int) - (k : Int)) = f := by rw [wrap_int (by omega) (by omega)]; omega
          have HZ := Lib.hid (show ZF 1 f 300 781 from ZF.of (n := 1) (by rw [PB_is]; decide) (by omega) (by omega))
          have HT2 := Lib.hid ht
          clear hm0 htop hex htl hf ht hfew
          cases up with
          | false =>
            have h9 := hoff.1 rfl
            have hc1 : c = -1 := by rw [← hc]; exact cmpR_lt h9.1
            have HO := Lib.hid (decide_eq_true h9.2)
            subst hc1
            clear h9 hoff hc
            clear c0_0 c0_1 c0_2 c2_0 c2_1 c2_2
            have c0_0 := S.c 0 0 rfl rfl
            have c0_1 := S.c 0 1 rfl rfl
            have c0_2 := S.c 0 2 rfl rfl
            go_wp2_with fail
            clear c0_0 c0_1 c0_2
            refine (S.call (dfew_any nA (dA.out.max (by decide)) (k : Int) false HF.out)).mono ?_
            clear S
            rintro e w7 ⟨rfl, S, H⟩
            replace nA := nA.hold H
            replace nR := nR.hold H
            clear H
            have c0_0 := S.c 0 0 rfl rfl
            have c0_1 := S.c 0 1 rfl rfl
            have c0_2 := S.c 0 2 rfl rfl
            clear c0_0 c0_1 c0_2
            have c0_0 := S.c 0 0 rfl rfl
            have c0_1 := S.c 0 1 rfl rfl
            have c0_2 := S.c 0 2 rfl rfl
            go_upto_region 15 with fail
            clear c0_0 c0_1 c0_2
            go_cut [10, 11] (fun s10 s11 wx => ∃ g10 bl pl ll Kl ml el, s10 = .pointer (some ⟨g10, 0, none⟩) ∧ s11 = .int .i64 0 ∧ St w wx [(w.heap.size, 27, [.bool bA, .slice pA lA KA, .int .i64 eA]), (w1.heap.size, 27, [.bool bA, .slice pA lA KA, .int .i64 eA]), (w3.heap.size, 27, [.bool bR, .slice pR lR KR, .int .i64 eR]), (g10, 27, [.bool bl, .slice pl ll Kl, .int .i64 el])] ∧ Hid (negB ml = bl) ∧ IsNat wx (.slice pl ll Kl) ml.natAbs ∧ Hid (DyF ml el (dq 1 f) 300 781) ∧ Hold32 w7 wx)
            case first =>
              have HH := (Hold.drew w7).to32
              replace nA := nA.hold32 HH
              replace nR := nR.hold32 HH
              replace S := S.drew
              refine wp_region_held_drew (S := fun W => W.cell? ⟨w.heap.size, 0, none⟩ = some (.bool bA) ∧ W.cell? ⟨w.heap.size, 1, none⟩ = some (.slice pA lA KA) ∧ W.cell? ⟨w.heap.size, 2, none⟩ = some (.int .i64 eA)) (by kernel_rfl) ⟨S.c 0 0 rfl rfl, S.c 0 1 rfl rfl, S.c 0 2 rfl rfl⟩ (fun hS => ?_)
              generalize w7.drew = w8 at S nA nR HH hS ⊢
              refine wpAnyH_take (i := 1) (v := ?_) ((List.getElem?_toArray ..).trans rfl) (by kernel_rfl) (by kernel_rfl) (by kernel_rfl) (fun _ _ _ h => h) (Or.inl ⟨rfl, fun W hW => ?_⟩) hS ?_
              rotate_left
              · obtain ⟨hW0, hW1, hW2⟩ := hW; go_simp; try first | rfl | (rw [if_neg (by first | omega | (simp only [ByteArray.size_append]; first | omega | (have h1 : (ByteArray.mk #[47]).size = 1 := rfl; omega)))]; try rfl) | kernel_rfl
              try simp only [Act.put, List.setIfInBounds_toArray, List.set_cons_zero, List.set_cons_succ]
              refine wpAnyH_take (i := 2) (v := ?_) ((List.getElem?_toArray ..).trans rfl) (by kernel_rfl) (by kernel_rfl) (by kernel_rfl) (fun _ _ _ h => h) (Or.inl ⟨rfl, fun W hW => ?_⟩) hS ?_
              rotate_left
              · obtain ⟨hW0, hW1, hW2⟩ := hW; go_simp; try first | rfl | (rw [if_neg (by first | omega | (simp only [ByteArray.size_append]; first | omega | (have h1 : (ByteArray.mk #[47]).size = 1 := rfl; omega)))]; try rfl) | kernel_rfl
              try simp only [Act.put, List.setIfInBounds_toArray, List.set_cons_zero, List.set_cons_succ]
              refine wpAnyH_take (i := 3) (v := ?_) ((List.getElem?_toArray ..).trans rfl) (by kernel_rfl) (by kernel_rfl) (by kernel_rfl) (fun _ _ _ h => h) (Or.inl ⟨rfl, fun W hW => ?_⟩) hS ?_
              rotate_left
              · obtain ⟨hW0, hW1, hW2⟩ := hW; go_simp; try first | rfl | (rw [if_neg (by first | omega | (simp only [ByteArray.size_append]; first | omega | (have h1 : (ByteArray.mk #[47]).size = 1 := rfl; omega)))]; try rfl) | kernel_rfl
              try simp only [Act.put, List.setIfInBounds_toArray, List.set_cons_zero, List.set_cons_succ]
              refine wpAnyH_take (i := 4) (v := ?_) ((List.getElem?_toArray ..).trans rfl) (by kernel_rfl) (by kernel_rfl) (by kernel_rfl) (fun _ _ _ h => h) (Or.inl ⟨rfl, fun W hW => ?_⟩) hS ?_
              rotate_left
              · obtain ⟨hW0, hW1, hW2⟩ := hW; go_simp; try first | rfl | (rw [if_neg (by first | omega | (simp only [ByteArray.size_append]; first | omega | (have h1 : (ByteArray.mk #[47]).size = 1 := rfl; omega)))]; try rfl) | kernel_rfl
              try simp only [Act.put, List.setIfInBounds_toArray, List.set_cons_zero, List.set_cons_succ]
              refine wpAnyH_take (i := 5) (v := ?_) ((List.getElem?_toArray ..).trans rfl) (by kernel_rfl) (by kernel_rfl) (by kernel_rfl) (fun _ _ _ h => h) (Or.inl ⟨rfl, fun W hW => ?_⟩) hS ?_
              rotate_left
              · obtain ⟨hW0, hW1, hW2⟩ := hW; go_simp; try first | rfl | (rw [if_neg (by first | omega | (simp only [ByteArray.size_append]; first | omega | (have h1 : (ByteArray.mk #[47]).size = 1 := rfl; omega)))]; try rfl) | kernel_rfl
              try simp only [Act.put, List.setIfInBounds_toArray, List.set_cons_zero, List.set_cons_succ]
              refine wpAnyH_take (i := 8) (v := ?_) ((List.getElem?_toArray ..).trans rfl) (by kernel_rfl) (by kernel_rfl) (by kernel_rfl) (fun _ _ _ h => h) (Or.inl ⟨rfl, fun W hW => ?_⟩) hS ?_
              rotate_left
              · obtain ⟨hW0, hW1, hW2⟩ := hW; go_simp; try first | rfl | (rw [if_neg (by first | omega | (simp only [ByteArray.size_append]; first | omega | (have h1 : (ByteArray.mk #[47]).size = 1 := rfl; omega)))]; try rfl) | kernel_rfl
              try simp only [Act.put, List.setIfInBounds_toArray, List.set_cons_zero, List.set_cons_succ]
              refine wpAnyH_ready (rs := [0, 14]) (by kernel_rfl) (by simp) (AllReadyH.cons ((List.getElem?_toArray ..).trans rfl) (fun KK hKK => ?_) (AllReadyH.cons ((List.getElem?_toArray ..).trans rfl) (fun KK hKK => ?_) AllReadyH.nil))
              ·
                go_simp
                clear hS
                refine (S.call (wof_any 1 _ (by decide) (by decide))).mono ?_
                clear S
                rintro e w9 ⟨⟨_, rfl, po, lo, Ko, rfl, no⟩, S, H⟩
                replace nA := nA.hold H
                replace nR := nR.hold H
                replace HH := HH.trans H.to32
                clear H
                go_wp2_with fail
                refine hKK.out _ _ ⟨S.c 0 0 rfl rfl, S.c 0 1 rfl rfl, S.c 0 2 rfl rfl⟩ (fun hS => ?_)
                clear hKK KK
                try simp only [Act.put, List.setIfInBounds_toArray, List.set_cons_zero, List.set_cons_succ]
                refine wpAnyH_ready (rs := [6, 14]) (by kernel_rfl) (by simp) (AllReadyH.cons ((List.getElem?_toArray ..).trans rfl) (fun KK hKK => ?_) (AllReadyH.cons ((List.getElem?_toArray ..).trans rfl) (fun KK hKK => ?_) AllReadyH.nil))
                ·
                  go_simp
                  clear hS
                  refine (S.call (bits_nat nA (dA.out.max (by decide)) HT2.out)).mono ?_
                  clear S
                  rintro e w10 ⟨rfl, S, H⟩
                  replace nA := nA.hold H
                  replace nR := nR.hold H
                  replace no := no.hold H
                  replace HH := HH.trans H.to32
                  clear H
                  go_wp2_with fail
                  refine hKK.out _ _ ⟨S.c 0 0 rfl rfl, S.c 0 1 rfl rfl, S.c 0 2 rfl rfl⟩ (fun hS => ?_)
                  clear hKK KK
                  try simp only [Act.put, List.setIfInBounds_toArray, List.set_cons_zero, List.set_cons_succ]
                  refine wpAnyH_take (i := 7) (v := ?_) ((List.getElem?_toArray ..).trans rfl) (by kernel_rfl) (by kernel_rfl) (by kernel_rfl) (fun _ _ _ h => h) (Or.inl ⟨rfl, fun W hW => ?_⟩) hS ?_
                  rotate_left
                  · obtain ⟨hW0, hW1, hW2⟩ := hW; go_simp; try first | rfl | (rw [if_neg (by first | omega | (simp only [ByteArray.size_append]; first | omega | (have h1 : (ByteArray.mk #[47]).size = 1 := rfl; omega)))]; try rfl) | kernel_rfl
                  try simp only [Act.put, List.setIfInBounds_toArray, List.set_cons_zero, List.set_cons_succ]
                  refine wpAnyH_take (i := 9) (v := ?_) ((List.getElem?_toArray ..).trans rfl) (by kernel_rfl) (by kernel_rfl) (by kernel_rfl) (fun _ _ _ h => h) (Or.inl ⟨rfl, fun W hW => ?_⟩) hS ?_
                  rotate_left
                  · obtain ⟨hW0, hW1, hW2⟩ := hW; go_simp; try first | rfl | (rw [if_neg (by first | omega | (simp only [ByteArray.size_append]; first | omega | (have h1 : (ByteArray.mk #[47]).size = 1 := rfl; omega)))]; try rfl) | kernel_rfl
                  try simp only [Act.put, List.setIfInBounds_toArray, List.set_cons_zero, List.set_cons_succ]
                  refine wpAnyH_ready (rs := [10, 14]) (by kernel_rfl) (by simp) (AllReadyH.cons ((List.getElem?_toArray ..).trans rfl) (fun KK hKK => ?_) (AllReadyH.cons ((List.getElem?_toArray ..).trans rfl) (fun KK hKK => ?_) AllReadyH.nil))
                  ·
                    go_simp
                    clear hS
                    refine (S.call (dmake_any (HT.out.below S.below) ⟨_, _, _, rfl, no⟩ HZ.out (by decide) (dq 1 f) rfl)).mono ?_
                    clear S
                    rintro e w11 ⟨⟨_, rfl, bl, pl, ll, Kl, ml, el, rfl, hl, nl, dl⟩, S, H⟩
                    replace nA := nA.hold H
                    replace nR := nR.hold H
                    replace no := no.hold H
                    replace HH := HH.trans H.to32
                    clear H
                    go_wp2_with fail
                    refine hKK.out _ _ ⟨S.c 0 0 rfl rfl, S.c 0 1 rfl rfl, S.c 0 2 rfl rfl⟩ (fun hS => ?_)
                    clear hKK KK
                    try simp only [Act.put, List.setIfInBounds_toArray, List.set_cons_zero, List.set_cons_succ]
                    refine wpAnyH_take (i := 11) (v := ?_) ((List.getElem?_toArray ..).trans rfl) (by kernel_rfl) (by kernel_rfl) (by kernel_rfl) (fun _ _ _ h => h) (Or.inl ⟨rfl, fun W hW => ?_⟩) hS ?_
                    rotate_left
                    · obtain ⟨hW0, hW1, hW2⟩ := hW; go_simp; try first | rfl | (rw [if_neg (by first | omega | (simp only [ByteArray.size_append]; first | omega | (have h1 : (ByteArray.mk #[47]).size = 1 := rfl; omega)))]; try rfl) | kernel_rfl
                    try simp only [Act.put, List.setIfInBounds_toArray, List.set_cons_zero, List.set_cons_succ]
                    refine wpAnyH_take (i := 12) (v := ?_) ((List.getElem?_toArray ..).trans rfl) (by kernel_rfl) (by kernel_rfl) (by kernel_rfl) (fun _ _ _ h => h) (Or.inl ⟨rfl, fun W hW => ?_⟩) hS ?_
                    rotate_left
                    · obtain ⟨hW0, hW1, hW2⟩ := hW; go_simp; try first | rfl | (rw [if_neg (by first | omega | (simp only [ByteArray.size_append]; first | omega | (have h1 : (ByteArray.mk #[47]).size = 1 := rfl; omega)))]; try rfl) | kernel_rfl
                    try simp only [Act.put, List.setIfInBounds_toArray, List.set_cons_zero, List.set_cons_succ]
                    refine wpAnyH_take (i := 13) (v := ?_) ((List.getElem?_toArray ..).trans rfl) (by kernel_rfl) (by kernel_rfl) (by kernel_rfl) (fun _ _ _ h => h) (Or.inl ⟨rfl, fun W hW => ?_⟩) hS ?_
                    rotate_left
                    · obtain ⟨hW0, hW1, hW2⟩ := hW; go_simp; try first | rfl | (rw [if_neg (by first | omega | (simp only [ByteArray.size_append]; first | omega | (have h1 : (ByteArray.mk #[47]).size = 1 := rfl; omega)))]; try rfl) | kernel_rfl
                    try simp only [Act.put, List.setIfInBounds_toArray, List.set_cons_zero, List.set_cons_succ]
                    refine wpAnyH_ready (rs := [14]) (by kernel_rfl) (by simp) (AllReadyH.cons ((List.getElem?_toArray ..).trans rfl) (fun KK hKK => ?_) AllReadyH.nil)
                    go_simp
                    clear hS
                    have H := S.hnew 27 [.bool false, .slice none 0 0, .int .i64 0]
                    replace S := S.alloc 27 [.bool false, .slice none 0 0, .int .i64 0] (w11.heap.size)
                    try simp only [List.cons_append, List.nil_append] at S
                    replace nA := nA.hold H
                    replace nR := nR.hold H
                    replace no := no.hold H
                    replace nl := nl.hold H
                    replace HH := HH.trans H.to32
                    clear H
                    refine hKK.out _ _ ⟨S.c 0 0 rfl rfl, S.c 0 1 rfl rfl, S.c 0 2 rfl rfl⟩ (fun hS => ?_)
                    generalize (w11.alloc (.cells #[.bool false, .slice none 0 0, .int .i64 0] 27)) = w12 at S nA nR no nl HH hS ⊢
                    clear hKK KK
                    try simp only [Act.put, List.setIfInBounds_toArray, List.set_cons_zero, List.set_cons_succ]
                    refine wpAnyH_ready (rs := [15]) (by kernel_rfl) (by simp) (AllReadyH.cons ((List.getElem?_toArray ..).trans rfl) (fun KK hKK => ?_) AllReadyH.nil)
                    have c0 := S.c 3 0 rfl rfl
                    have f0 := S.f 3 0 rfl
                    have c1 := S.c 3 1 rfl rfl
                    have f1 := S.f 3 1 rfl
                    have c2 := S.c 3 2 rfl rfl
                    have f2 := S.f 3 2 rfl
                    go_simp
                    clear hS c0 f0 c1 f1 c2 f2
                    have H := S.hset 3 0 (.bool bl) rfl rfl (by intro q n e; cases e)
                    replace S := S.set 3 0 (.bool bl) rfl
                    replace nA := nA.hold H
                    replace nR := nR.hold H
                    replace no := no.hold H
                    replace nl := nl.hold H
                    replace HH := HH.trans H.to32
                    clear H
                    have H := S.hset 3 1 (.slice pl ll Kl) rfl rfl (by intro q n e; cases e)
                    replace S := S.set 3 1 (.slice pl ll Kl) rfl
                    replace nA := nA.hold H
                    replace nR := nR.hold H
                    replace no := no.hold H
                    replace nl := nl.hold H
                    replace HH := HH.trans H.to32
                    clear H
                    have H := S.hset32 3 2 (.int .i64 el) rfl rfl (by intro n e; cases e)
                    replace S := S.set 3 2 (.int .i64 el) rfl
                    replace nA := nA.hold32 H
                    replace nR := nR.hold32 H
                    replace no := no.hold32 H
                    replace nl := nl.hold32 H
                    replace HH := HH.trans H
                    clear H
                    refine hKK.out _ _ ⟨S.c 0 0 rfl rfl, S.c 0 1 rfl rfl, S.c 0 2 rfl rfl⟩ (fun hS => ?_)
                    generalize (((w12.setCell ⟨w11.heap.size, 0, none⟩ (.bool bl)).setCell ⟨w11.heap.size, 1, none⟩ (.slice pl ll Kl)).setCell ⟨w11.heap.size, 2, none⟩ (.int .i64 el)) = w13 at S nA nR no nl HH hS ⊢
                    clear hKK KK
                    try simp only [Act.put, List.setIfInBounds_toArray, List.set_cons_zero, List.set_cons_succ]
                    refine wpAnyH_ready (rs := [16]) (by kernel_rfl) (by simp) (AllReadyH.cons ((List.getElem?_toArray ..).trans rfl) (fun KK hKK => ?_) AllReadyH.nil)
                    go_simp
                    refine hKK.out _ _ hS (fun hS => ?_)
                    clear hKK KK
                    try simp only [Act.put, List.setIfInBounds_toArray, List.set_cons_zero, List.set_cons_succ]
                    refine wpAnyH_done (by kernel_rfl) ?_ _
                    go_wp2_with fail
                    go_meet
                    case rel => exact ⟨w11.heap.size, bl, pl, ll, Kl, ml, el, rfl, rfl, S, hl, nl, dl, HH⟩
                  ·
                    go_simp
                    clear hS
                    have H := S.hnew 27 [.bool false, .slice none 0 0, .int .i64 0]
                    replace S := S.alloc 27 [.bool false, .slice none 0 0, .int .i64 0] (w10.heap.size)
                    try simp only [List.cons_append, List.nil_append] at S
                    replace nA := nA.hold H
                    replace nR := nR.hold H
                    replace no := no.hold H
                    replace HH := HH.trans H.to32
                    clear H
                    refine hKK.out _ _ ⟨S.c 0 0 rfl rfl, S.c 0 1 rfl rfl, S.c 0 2 rfl rfl⟩ (fun hS => ?_)
                    generalize (w10.alloc (.cells #[.bool false, .slice none 0 0, .int .i64 0] 27)) = w14 at S nA nR no HH hS ⊢
                    clear hKK KK
                    try simp only [Act.put, List.setIfInBounds_toArray, List.set_cons_zero, List.set_cons_succ]
                    refine wpAnyH_ready (rs := [10]) (by kernel_rfl) (by simp) (AllReadyH.cons ((List.getElem?_toArray ..).trans rfl) (fun KK hKK => ?_) AllReadyH.nil)
                    go_simp
                    clear hS
                    refine (S.call (dmake_any (HT.out.below S.below) ⟨_, _, _, rfl, no⟩ HZ.out (by decide) (dq 1 f) rfl)).mono ?_
                    clear S
                    rintro e w15 ⟨⟨_, rfl, bl, pl, ll, Kl, ml, el, rfl, hl, nl, dl⟩, S, H⟩
                    replace nA := nA.hold H
                    replace nR := nR.hold H
                    replace no := no.hold H
                    replace HH := HH.trans H.to32
                    clear H
                    go_wp2_with fail
                    refine hKK.out _ _ ⟨S.c 0 0 rfl rfl, S.c 0 1 rfl rfl, S.c 0 2 rfl rfl⟩ (fun hS => ?_)
                    clear hKK KK
                    try simp only [Act.put, List.setIfInBounds_toArray, List.set_cons_zero, List.set_cons_succ]
                    refine wpAnyH_take (i := 11) (v := ?_) ((List.getElem?_toArray ..).trans rfl) (by kernel_rfl) (by kernel_rfl) (by kernel_rfl) (fun _ _ _ h => h) (Or.inl ⟨rfl, fun W hW => ?_⟩) hS ?_
                    rotate_left
                    · obtain ⟨hW0, hW1, hW2⟩ := hW; go_simp; try first | rfl | (rw [if_neg (by first | omega | (simp only [ByteArray.size_append]; first | omega | (have h1 : (ByteArray.mk #[47]).size = 1 := rfl; omega)))]; try rfl) | kernel_rfl
                    try simp only [Act.put, List.setIfInBounds_toArray, List.set_cons_zero, List.set_cons_succ]
                    refine wpAnyH_take (i := 12) (v := ?_) ((List.getElem?_toArray ..).trans rfl) (by kernel_rfl) (by kernel_rfl) (by kernel_rfl) (fun _ _ _ h => h) (Or.inl ⟨rfl, fun W hW => ?_⟩) hS ?_
                    rotate_left
                    · obtain ⟨hW0, hW1, hW2⟩ := hW; go_simp; try first | rfl | (rw [if_neg (by first | omega | (simp only [ByteArray.size_append]; first | omega | (have h1 : (ByteArray.mk #[47]).size = 1 := rfl; omega)))]; try rfl) | kernel_rfl
                    try simp only [Act.put, List.setIfInBounds_toArray, List.set_cons_zero, List.set_cons_succ]
                    refine wpAnyH_take (i := 13) (v := ?_) ((List.getElem?_toArray ..).trans rfl) (by kernel_rfl) (by kernel_rfl) (by kernel_rfl) (fun _ _ _ h => h) (Or.inl ⟨rfl, fun W hW => ?_⟩) hS ?_
                    rotate_left
                    · obtain ⟨hW0, hW1, hW2⟩ := hW; go_simp; try first | rfl | (rw [if_neg (by first | omega | (simp only [ByteArray.size_append]; first | omega | (have h1 : (ByteArray.mk #[47]).size = 1 := rfl; omega)))]; try rfl) | kernel_rfl
                    try simp only [Act.put, List.setIfInBounds_toArray, List.set_cons_zero, List.set_cons_succ]
                    refine wpAnyH_ready (rs := [15]) (by kernel_rfl) (by simp) (AllReadyH.cons ((List.getElem?_toArray ..).trans rfl) (fun KK hKK => ?_) AllReadyH.nil)
                    have c0 := S.c 3 0 rfl rfl
                    have f0 := S.f 3 0 rfl
                    have c1 := S.c 3 1 rfl rfl
                    have f1 := S.f 3 1 rfl
                    have c2 := S.c 3 2 rfl rfl
                    have f2 := S.f 3 2 rfl
                    go_simp
                    clear hS c0 f0 c1 f1 c2 f2
                    have H := S.hset 3 0 (.bool bl) rfl rfl (by intro q n e; cases e)
                    replace S := S.set 3 0 (.bool bl) rfl
                    replace nA := nA.hold H
                    replace nR := nR.hold H
                    replace no := no.hold H
                    replace nl := nl.hold H
                    replace HH := HH.trans H.to32
                    clear H
                    have H := S.hset 3 1 (.slice pl ll Kl) rfl rfl (by intro q n e; cases e)
                    replace S := S.set 3 1 (.slice pl ll Kl) rfl
                    replace nA := nA.hold H
                    replace nR := nR.hold H
                    replace no := no.hold H
                    replace nl := nl.hold H
                    replace HH := HH.trans H.to32
                    clear H
                    have H := S.hset32 3 2 (.int .i64 el) rfl rfl (by intro n e; cases e)
                    replace S := S.set 3 2 (.int .i64 el) rfl
                    replace nA := nA.hold32 H
                    replace nR := nR.hold32 H
                    replace no := no.hold32 H
                    replace nl := nl.hold32 H
                    replace HH := HH.trans H
                    clear H
                    refine hKK.out _ _ ⟨S.c 0 0 rfl rfl, S.c 0 1 rfl rfl, S.c 0 2 rfl rfl⟩ (fun hS => ?_)
                    generalize (((w15.setCell ⟨w10.heap.size, 0, none⟩ (.bool bl)).setCell ⟨w10.heap.size, 1, none⟩ (.slice pl ll Kl)).setCell ⟨w10.heap.size, 2, none⟩ (.int .i64 el)) = w16 at S nA nR no nl HH hS ⊢
                    clear hKK KK
                    try simp only [Act.put, List.setIfInBounds_toArray, List.set_cons_zero, List.set_cons_succ]
                    refine wpAnyH_ready (rs := [16]) (by kernel_rfl) (by simp) (AllReadyH.cons ((List.getElem?_toArray ..).trans rfl) (fun KK hKK => ?_) AllReadyH.nil)
                    go_simp
                    refine hKK.out _ _ hS (fun hS => ?_)
                    clear hKK KK
                    try simp only [Act.put, List.setIfInBounds_toArray, List.set_cons_zero, List.set_cons_succ]
                    refine wpAnyH_done (by kernel_rfl) ?_ _
                    go_wp2_with fail
                    go_meet
                    case rel => exact ⟨w10.heap.size, bl, pl, ll, Kl, ml, el, rfl, rfl, S, hl, nl, dl, HH⟩
                ·
                  go_simp
                  clear hS
                  have H := S.hnew 27 [.bool false, .slice none 0 0, .int .i64 0]
                  replace S := S.alloc 27 [.bool false, .slice none 0 0, .int .i64 0] (w9.heap.size)
                  try simp only [List.cons_append, List.nil_append] at S
                  replace nA := nA.hold H
                  replace nR := nR.hold H
                  replace no := no.hold H
                  replace HH := HH.trans H.to32
                  clear H
                  refine hKK.out _ _ ⟨S.c 0 0 rfl rfl, S.c 0 1 rfl rfl, S.c 0 2 rfl rfl⟩ (fun hS => ?_)
                  generalize (w9.alloc (.cells #[.bool false, .slice none 0 0, .int .i64 0] 27)) = w17 at S nA nR no HH hS ⊢
                  clear hKK KK
                  try simp only [Act.put, List.setIfInBounds_toArray, List.set_cons_zero, List.set_cons_succ]
                  refine wpAnyH_ready (rs := [6]) (by kernel_rfl) (by simp) (AllReadyH.cons ((List.getElem?_toArray ..).trans rfl) (fun KK hKK => ?_) AllReadyH.nil)
                  go_simp
                  clear hS
                  refine (S.call (bits_nat nA (dA.out.max (by decide)) HT2.out)).mono ?_
                  clear S
                  rintro e w18 ⟨rfl, S, H⟩
                  replace nA := nA.hold H
                  replace nR := nR.hold H
                  replace no := no.hold H
                  replace HH := HH.trans H.to32
                  clear H
                  go_wp2_with fail
                  refine hKK.out _ _ ⟨S.c 0 0 rfl rfl, S.c 0 1 rfl rfl, S.c 0 2 rfl rfl⟩ (fun hS => ?_)
                  clear hKK KK
                  try simp only [Act.put, List.setIfInBounds_toArray, List.set_cons_zero, List.set_cons_succ]
                  refine wpAnyH_take (i := 7) (v := ?_) ((List.getElem?_toArray ..).trans rfl) (by kernel_rfl) (by kernel_rfl) (by kernel_rfl) (fun _ _ _ h => h) (Or.inl ⟨rfl, fun W hW => ?_⟩) hS ?_
                  rotate_left
                  · obtain ⟨hW0, hW1, hW2⟩ := hW; go_simp; try first | rfl | (rw [if_neg (by first | omega | (simp only [ByteArray.size_append]; first | omega | (have h1 : (ByteArray.mk #[47]).size = 1 := rfl; omega)))]; try rfl) | kernel_rfl
                  try simp only [Act.put, List.setIfInBounds_toArray, List.set_cons_zero, List.set_cons_succ]
                  refine wpAnyH_take (i := 9) (v := ?_) ((List.getElem?_toArray ..).trans rfl) (by kernel_rfl) (by kernel_rfl) (by kernel_rfl) (fun _ _ _ h => h) (Or.inl ⟨rfl, fun W hW => ?_⟩) hS ?_
                  rotate_left
                  · obtain ⟨hW0, hW1, hW2⟩ := hW; go_simp; try first | rfl | (rw [if_neg (by first | omega | (simp only [ByteArray.size_append]; first | omega | (have h1 : (ByteArray.mk #[47]).size = 1 := rfl; omega)))]; try rfl) | kernel_rfl
                  try simp only [Act.put, List.setIfInBounds_toArray, List.set_cons_zero, List.set_cons_succ]
                  refine wpAnyH_ready (rs := [10]) (by kernel_rfl) (by simp) (AllReadyH.cons ((List.getElem?_toArray ..).trans rfl) (fun KK hKK => ?_) AllReadyH.nil)
                  go_simp
                  clear hS
                  refine (S.call (dmake_any (HT.out.below S.below) ⟨_, _, _, rfl, no⟩ HZ.out (by decide) (dq 1 f) rfl)).mono ?_
                  clear S
                  rintro e w19 ⟨⟨_, rfl, bl, pl, ll, Kl, ml, el, rfl, hl, nl, dl⟩, S, H⟩
                  replace nA := nA.hold H
                  replace nR := nR.hold H
                  replace no := no.hold H
                  replace HH := HH.trans H.to32
                  clear H
                  go_wp2_with fail
                  refine hKK.out _ _ ⟨S.c 0 0 rfl rfl, S.c 0 1 rfl rfl, S.c 0 2 rfl rfl⟩ (fun hS => ?_)
                  clear hKK KK
                  try simp only [Act.put, List.setIfInBounds_toArray, List.set_cons_zero, List.set_cons_succ]
                  refine wpAnyH_take (i := 11) (v := ?_) ((List.getElem?_toArray ..).trans rfl) (by kernel_rfl) (by kernel_rfl) (by kernel_rfl) (fun _ _ _ h => h) (Or.inl ⟨rfl, fun W hW => ?_⟩) hS ?_
                  rotate_left
                  · obtain ⟨hW0, hW1, hW2⟩ := hW; go_simp; try first | rfl | (rw [if_neg (by first | omega | (simp only [ByteArray.size_append]; first | omega | (have h1 : (ByteArray.mk #[47]).size = 1 := rfl; omega)))]; try rfl) | kernel_rfl
                  try simp only [Act.put, List.setIfInBounds_toArray, List.set_cons_zero, List.set_cons_succ]
                  refine wpAnyH_take (i := 12) (v := ?_) ((List.getElem?_toArray ..).trans rfl) (by kernel_rfl) (by kernel_rfl) (by kernel_rfl) (fun _ _ _ h => h) (Or.inl ⟨rfl, fun W hW => ?_⟩) hS ?_
                  rotate_left
                  · obtain ⟨hW0, hW1, hW2⟩ := hW; go_simp; try first | rfl | (rw [if_neg (by first | omega | (simp only [ByteArray.size_append]; first | omega | (have h1 : (ByteArray.mk #[47]).size = 1 := rfl; omega)))]; try rfl) | kernel_rfl
                  try simp only [Act.put, List.setIfInBounds_toArray, List.set_cons_zero, List.set_cons_succ]
                  refine wpAnyH_take (i := 13) (v := ?_) ((List.getElem?_toArray ..).trans rfl) (by kernel_rfl) (by kernel_rfl) (by kernel_rfl) (fun _ _ _ h => h) (Or.inl ⟨rfl, fun W hW => ?_⟩) hS ?_
                  rotate_left
                  · obtain ⟨hW0, hW1, hW2⟩ := hW; go_simp; try first | rfl | (rw [if_neg (by first | omega | (simp only [ByteArray.size_append]; first | omega | (have h1 : (ByteArray.mk #[47]).size = 1 := rfl; omega)))]; try rfl) | kernel_rfl
                  try simp only [Act.put, List.setIfInBounds_toArray, List.set_cons_zero, List.set_cons_succ]
                  refine wpAnyH_ready (rs := [15]) (by kernel_rfl) (by simp) (AllReadyH.cons ((List.getElem?_toArray ..).trans rfl) (fun KK hKK => ?_) AllReadyH.nil)
                  have c0 := S.c 3 0 rfl rfl
                  have f0 := S.f 3 0 rfl
                  have c1 := S.c 3 1 rfl rfl
                  have f1 := S.f 3 1 rfl
                  have c2 := S.c 3 2 rfl rfl
                  have f2 := S.f 3 2 rfl
                  go_simp
                  clear hS c0 f0 c1 f1 c2 f2
                  have H := S.hset 3 0 (.bool bl) rfl rfl (by intro q n e; cases e)
                  replace S := S.set 3 0 (.bool bl) rfl
                  replace nA := nA.hold H
                  replace nR := nR.hold H
                  replace no := no.hold H
                  replace nl := nl.hold H
                  replace HH := HH.trans H.to32
                  clear H
                  have H := S.hset 3 1 (.slice pl ll Kl) rfl rfl (by intro q n e; cases e)
                  replace S := S.set 3 1 (.slice pl ll Kl) rfl
                  replace nA := nA.hold H
                  replace nR := nR.hold H
                  replace no := no.hold H
                  replace nl := nl.hold H
                  replace HH := HH.trans H.to32
                  clear H
                  have H := S.hset32 3 2 (.int .i64 el) rfl rfl (by intro n e; cases e)
                  replace S := S.set 3 2 (.int .i64 el) rfl
                  replace nA := nA.hold32 H
                  replace nR := nR.hold32 H
                  replace no := no.hold32 H
                  replace nl := nl.hold32 H
                  replace HH := HH.trans H
                  clear H
                  refine hKK.out _ _ ⟨S.c 0 0 rfl rfl, S.c 0 1 rfl rfl, S.c 0 2 rfl rfl⟩ (fun hS => ?_)
                  generalize (((w19.setCell ⟨w9.heap.size, 0, none⟩ (.bool bl)).setCell ⟨w9.heap.size, 1, none⟩ (.slice pl ll Kl)).setCell ⟨w9.heap.size, 2, none⟩ (.int .i64 el)) = w20 at S nA nR no nl HH hS ⊢
                  clear hKK KK
                  try simp only [Act.put, List.setIfInBounds_toArray, List.set_cons_zero, List.set_cons_succ]
                  refine wpAnyH_ready (rs := [16]) (by kernel_rfl) (by simp) (AllReadyH.cons ((List.getElem?_toArray ..).trans rfl) (fun KK hKK => ?_) AllReadyH.nil)
                  go_simp
                  refine hKK.out _ _ hS (fun hS => ?_)
                  clear hKK KK
                  try simp only [Act.put, List.setIfInBounds_toArray, List.set_cons_zero, List.set_cons_succ]
                  refine wpAnyH_done (by kernel_rfl) ?_ _
                  go_wp2_with fail
                  go_meet
                  case rel => exact ⟨w9.heap.size, bl, pl, ll, Kl, ml, el, rfl, rfl, S, hl, nl, dl, HH⟩
              ·
                go_simp
                clear hS
                have H := S.hnew 27 [.bool false, .slice none 0 0, .int .i64 0]
                replace S := S.alloc 27 [.bool false, .slice none 0 0, .int .i64 0] (w8.heap.size)
                try simp only [List.cons_append, List.nil_append] at S
                replace nA := nA.hold H
                replace nR := nR.hold H
                replace HH := HH.trans H.to32
                clear H
                refine hKK.out _ _ ⟨S.c 0 0 rfl rfl, S.c 0 1 rfl rfl, S.c 0 2 rfl rfl⟩ (fun hS => ?_)
                generalize (w8.alloc (.cells #[.bool false, .slice none 0 0, .int .i64 0] 27)) = w21 at S nA nR HH hS ⊢
                clear hKK KK
                try simp only [Act.put, List.setIfInBounds_toArray, List.set_cons_zero, List.set_cons_succ]
                refine wpAnyH_ready (rs := [0]) (by kernel_rfl) (by simp) (AllReadyH.cons ((List.getElem?_toArray ..).trans rfl) (fun KK hKK => ?_) AllReadyH.nil)
                go_simp
                clear hS
                refine (S.call (wof_any 1 _ (by decide) (by decide))).mono ?_
                clear S
                rintro e w22 ⟨⟨_, rfl, po, lo, Ko, rfl, no⟩, S, H⟩
                replace nA := nA.hold H
                replace nR := nR.hold H
                replace HH := HH.trans H.to32
                clear H
                go_wp2_with fail
                refine hKK.out _ _ ⟨S.c 0 0 rfl rfl, S.c 0 1 rfl rfl, S.c 0 2 rfl rfl⟩ (fun hS => ?_)
                clear hKK KK
                try simp only [Act.put, List.setIfInBounds_toArray, List.set_cons_zero, List.set_cons_succ]
                refine wpAnyH_ready (rs := [6]) (by kernel_rfl) (by simp) (AllReadyH.cons ((List.getElem?_toArray ..).trans rfl) (fun KK hKK => ?_) AllReadyH.nil)
                go_simp
                clear hS
                refine (S.call (bits_nat nA (dA.out.max (by decide)) HT2.out)).mono ?_
                clear S
                rintro e w23 ⟨rfl, S, H⟩
                replace nA := nA.hold H
                replace nR := nR.hold H
                replace no := no.hold H
                replace HH := HH.trans H.to32
                clear H
                go_wp2_with fail
                refine hKK.out _ _ ⟨S.c 0 0 rfl rfl, S.c 0 1 rfl rfl, S.c 0 2 rfl rfl⟩ (fun hS => ?_)
                clear hKK KK
                try simp only [Act.put, List.setIfInBounds_toArray, List.set_cons_zero, List.set_cons_succ]
                refine wpAnyH_take (i := 7) (v := ?_) ((List.getElem?_toArray ..).trans rfl) (by kernel_rfl) (by kernel_rfl) (by kernel_rfl) (fun _ _ _ h => h) (Or.inl ⟨rfl, fun W hW => ?_⟩) hS ?_
                rotate_left
                · obtain ⟨hW0, hW1, hW2⟩ := hW; go_simp; try first | rfl | (rw [if_neg (by first | omega | (simp only [ByteArray.size_append]; first | omega | (have h1 : (ByteArray.mk #[47]).size = 1 := rfl; omega)))]; try rfl) | kernel_rfl
                try simp only [Act.put, List.setIfInBounds_toArray, List.set_cons_zero, List.set_cons_succ]
                refine wpAnyH_take (i := 9) (v := ?_) ((List.getElem?_toArray ..).trans rfl) (by kernel_rfl) (by kernel_rfl) (by kernel_rfl) (fun _ _ _ h => h) (Or.inl ⟨rfl, fun W hW => ?_⟩) hS ?_
                rotate_left
                · obtain ⟨hW0, hW1, hW2⟩ := hW; go_simp; try first | rfl | (rw [if_neg (by first | omega | (simp only [ByteArray.size_append]; first | omega | (have h1 : (ByteArray.mk #[47]).size = 1 := rfl; omega)))]; try rfl) | kernel_rfl
                try simp only [Act.put, List.setIfInBounds_toArray, List.set_cons_zero, List.set_cons_succ]
                refine wpAnyH_ready (rs := [10]) (by kernel_rfl) (by simp) (AllReadyH.cons ((List.getElem?_toArray ..).trans rfl) (fun KK hKK => ?_) AllReadyH.nil)
                go_simp
                clear hS
                refine (S.call (dmake_any (HT.out.below S.below) ⟨_, _, _, rfl, no⟩ HZ.out (by decide) (dq 1 f) rfl)).mono ?_
                clear S
                rintro e w24 ⟨⟨_, rfl, bl, pl, ll, Kl, ml, el, rfl, hl, nl, dl⟩, S, H⟩
                replace nA := nA.hold H
                replace nR := nR.hold H
                replace no := no.hold H
                replace HH := HH.trans H.to32
                clear H
                go_wp2_with fail
                refine hKK.out _ _ ⟨S.c 0 0 rfl rfl, S.c 0 1 rfl rfl, S.c 0 2 rfl rfl⟩ (fun hS => ?_)
                clear hKK KK
                try simp only [Act.put, List.setIfInBounds_toArray, List.set_cons_zero, List.set_cons_succ]
                refine wpAnyH_take (i := 11) (v := ?_) ((List.getElem?_toArray ..).trans rfl) (by kernel_rfl) (by kernel_rfl) (by kernel_rfl) (fun _ _ _ h => h) (Or.inl ⟨rfl, fun W hW => ?_⟩) hS ?_
                rotate_left
                · obtain ⟨hW0, hW1, hW2⟩ := hW; go_simp; try first | rfl | (rw [if_neg (by first | omega | (simp only [ByteArray.size_append]; first | omega | (have h1 : (ByteArray.mk #[47]).size = 1 := rfl; omega)))]; try rfl) | kernel_rfl
                try simp only [Act.put, List.setIfInBounds_toArray, List.set_cons_zero, List.set_cons_succ]
                refine wpAnyH_take (i := 12) (v := ?_) ((List.getElem?_toArray ..).trans rfl) (by kernel_rfl) (by kernel_rfl) (by kernel_rfl) (fun _ _ _ h => h) (Or.inl ⟨rfl, fun W hW => ?_⟩) hS ?_
                rotate_left
                · obtain ⟨hW0, hW1, hW2⟩ := hW; go_simp; try first | rfl | (rw [if_neg (by first | omega | (simp only [ByteArray.size_append]; first | omega | (have h1 : (ByteArray.mk #[47]).size = 1 := rfl; omega)))]; try rfl) | kernel_rfl
                try simp only [Act.put, List.setIfInBounds_toArray, List.set_cons_zero, List.set_cons_succ]
                refine wpAnyH_take (i := 13) (v := ?_) ((List.getElem?_toArray ..).trans rfl) (by kernel_rfl) (by kernel_rfl) (by kernel_rfl) (fun _ _ _ h => h) (Or.inl ⟨rfl, fun W hW => ?_⟩) hS ?_
                rotate_left
                · obtain ⟨hW0, hW1, hW2⟩ := hW; go_simp; try first | rfl | (rw [if_neg (by first | omega | (simp only [ByteArray.size_append]; first | omega | (have h1 : (ByteArray.mk #[47]).size = 1 := rfl; omega)))]; try rfl) | kernel_rfl
                try simp only [Act.put, List.setIfInBounds_toArray, List.set_cons_zero, List.set_cons_succ]
                refine wpAnyH_ready (rs := [15]) (by kernel_rfl) (by simp) (AllReadyH.cons ((List.getElem?_toArray ..).trans rfl) (fun KK hKK => ?_) AllReadyH.nil)
                have c0 := S.c 3 0 rfl rfl
                have f0 := S.f 3 0 rfl
                have c1 := S.c 3 1 rfl rfl
                have f1 := S.f 3 1 rfl
                have c2 := S.c 3 2 rfl rfl
                have f2 := S.f 3 2 rfl
                go_simp
                clear hS c0 f0 c1 f1 c2 f2
                have H := S.hset 3 0 (.bool bl) rfl rfl (by intro q n e; cases e)
                replace S := S.set 3 0 (.bool bl) rfl
                replace nA := nA.hold H
                replace nR := nR.hold H
                replace no := no.hold H
                replace nl := nl.hold H
                replace HH := HH.trans H.to32
                clear H
                have H := S.hset 3 1 (.slice pl ll Kl) rfl rfl (by intro q n e; cases e)
                replace S := S.set 3 1 (.slice pl ll Kl) rfl
                replace nA := nA.hold H
                replace nR := nR.hold H
                replace no := no.hold H
                replace nl := nl.hold H
                replace HH := HH.trans H.to32
                clear H
                have H := S.hset32 3 2 (.int .i64 el) rfl rfl (by intro n e; cases e)
                replace S := S.set 3 2 (.int .i64 el) rfl
                replace nA := nA.hold32 H
                replace nR := nR.hold32 H
                replace no := no.hold32 H
                replace nl := nl.hold32 H
                replace HH := HH.trans H
                clear H
                refine hKK.out _ _ ⟨S.c 0 0 rfl rfl, S.c 0 1 rfl rfl, S.c 0 2 rfl rfl⟩ (fun hS => ?_)
                generalize (((w24.setCell ⟨w8.heap.size, 0, none⟩ (.bool bl)).setCell ⟨w8.heap.size, 1, none⟩ (.slice pl ll Kl)).setCell ⟨w8.heap.size, 2, none⟩ (.int .i64 el)) = w25 at S nA nR no nl HH hS ⊢
                clear hKK KK
                try simp only [Act.put, List.setIfInBounds_toArray, List.set_cons_zero, List.set_cons_succ]
                refine wpAnyH_ready (rs := [16]) (by kernel_rfl) (by simp) (AllReadyH.cons ((List.getElem?_toArray ..).trans rfl) (fun KK hKK => ?_) AllReadyH.nil)
                go_simp
                refine hKK.out _ _ hS (fun hS => ?_)
                clear hKK KK
                try simp only [Act.put, List.setIfInBounds_toArray, List.set_cons_zero, List.set_cons_succ]
                refine wpAnyH_done (by kernel_rfl) ?_ _
                go_wp2_with fail
                go_meet
                case rel => exact ⟨w8.heap.size, bl, pl, ll, Kl, ml, el, rfl, rfl, S, hl, nl, dl, HH⟩
            case rest =>
              obtain ⟨g10, bl, pl, ll, Kl, ml, el, rfl, rfl, S, hl, nl, dl, HH⟩ := hcut
              obtain ⟨w26, rfl⟩ : ∃ W : World, W = wc := ⟨_, rfl⟩
              replace nA := nA.hold32 HH
              replace nR := nR.hold32 HH
              clear HH
              have c2_0 := S.c 2 0 rfl rfl
              have c2_1 := S.c 2 1 rfl rfl
              have c2_2 := S.c 2 2 rfl rfl
              have c3_0 := S.c 3 0 rfl rfl
              have c3_1 := S.c 3 1 rfl rfl
              have c3_2 := S.c 3 2 rfl rfl
              go_wp2_with fail
              clear c2_0 c2_1 c2_2 c3_0 c3_1 c3_2
              refine (S.call (dadd_any (L := 300) (H := 781) (HT.out.below S.below) ⟨bR, pR, lR, KR, mR, eR, rfl, hR, nR, dR⟩ ⟨bl, pl, ll, Kl, ml, el, rfl, hl, nl, dl⟩ (by decide) (y + dq 1 f) rfl)).mono ?_
              clear S
              rintro e w27 ⟨⟨_, rfl, bN, pN, lN, KN, mN, eN, rfl, hN, nN, dN⟩, S, H⟩
              replace nA := nA.hold H
              replace nR := nR.hold H
              replace nl := nl.hold H
              clear H
              have c2_0 := S.c 2 0 rfl rfl
              have c2_1 := S.c 2 1 rfl rfl
              have c2_2 := S.c 2 2 rfl rfl
              have c3_0 := S.c 3 0 rfl rfl
              have c3_1 := S.c 3 1 rfl rfl
              have c3_2 := S.c 3 2 rfl rfl
              have H := S.hnew 27 [.bool bN, .slice pN lN KN, .int .i64 eN]
              replace S := S.alloc 27 [.bool bN, .slice pN lN KN, .int .i64 eN] (w27.heap.size)
              try simp only [List.cons_append, List.nil_append] at S
              replace nA := nA.hold H
              replace nR := nR.hold H
              replace nl := nl.hold H
              replace nN := nN.hold H
              clear H
              clear c2_0 c2_1 c2_2 c3_0 c3_1 c3_2
              have c0_0 := S.c 0 0 rfl rfl
              have c0_1 := S.c 0 1 rfl rfl
              have c0_2 := S.c 0 2 rfl rfl
              have c4_0 := S.c 4 0 rfl rfl
              have c4_1 := S.c 4 1 rfl rfl
              have c4_2 := S.c 4 2 rfl rfl
              go_wp2_with fail
              generalize (.tuple #[.agg #[.bool bN, .slice pN lN KN, .int .i64 eN], .int .i64 0] : Value) = g2
              clear c0_0 c0_1 c0_2 c4_0 c4_1 c4_2
              refine (S.call (dless_any (L := 300) (H := 782) (IsD.mono ⟨bA, pA, lA, KA, mA, eA, rfl, hA, nA, dA⟩ (L := 300) (H := 780) (L' := 300) (H' := 782) (by decide) (by decide)) ⟨bN, pN, lN, KN, mN, eN, rfl, hN, nN, dN⟩ (by decide) true HO.out)).mono ?_
              clear S
              rintro e w28 ⟨rfl, S, H⟩
              replace nA := nA.hold H
              replace nR := nR.hold H
              replace nl := nl.hold H
              replace nN := nN.hold H
              clear H
              have c0_0 := S.c 0 0 rfl rfl
              have c0_1 := S.c 0 1 rfl rfl
              have c0_2 := S.c 0 2 rfl rfl
              have c4_0 := S.c 4 0 rfl rfl
              have c4_1 := S.c 4 1 rfl rfl
              have c4_2 := S.c 4 2 rfl rfl
              go_wp2_with fail
              exact bodyPost_ret (v := .bool true) (by simp [results, Tryd.f3, go_sem]) rfl (⟨rfl, S.below⟩)
          | true =>
            have h9 := hoff.2 rfl
            have hc1 : c = 1 := by rw [← hc]; exact cmpR_gt h9.1
            have HO := Lib.hid (decide_eq_true h9.2)
            subst hc1
            clear h9 hoff hc
            clear c0_0 c0_1 c0_2 c2_0 c2_1 c2_2
            have c0_0 := S.c 0 0 rfl rfl
            have c0_1 := S.c 0 1 rfl rfl
            have c0_2 := S.c 0 2 rfl rfl
            go_wp2_with fail
            clear c0_0 c0_1 c0_2
            refine (S.call (dfew_any nA (dA.out.max (by decide)) (k : Int) false HF.out)).mono ?_
            clear S
            rintro e w7 ⟨rfl, S, H⟩
            replace nA := nA.hold H
            replace nR := nR.hold H
            clear H
            have c0_0 := S.c 0 0 rfl rfl
            have c0_1 := S.c 0 1 rfl rfl
            have c0_2 := S.c 0 2 rfl rfl
            clear c0_0 c0_1 c0_2
            have c0_0 := S.c 0 0 rfl rfl
            have c0_1 := S.c 0 1 rfl rfl
            have c0_2 := S.c 0 2 rfl rfl
            go_upto_region 15 with fail
            clear c0_0 c0_1 c0_2
            go_cut [10, 11] (fun s10 s11 wx => ∃ g10 bl pl ll Kl ml el, s10 = .pointer (some ⟨g10, 0, none⟩) ∧ s11 = .int .i64 0 ∧ St w wx [(w.heap.size, 27, [.bool bA, .slice pA lA KA, .int .i64 eA]), (w1.heap.size, 27, [.bool bA, .slice pA lA KA, .int .i64 eA]), (w3.heap.size, 27, [.bool bR, .slice pR lR KR, .int .i64 eR]), (g10, 27, [.bool bl, .slice pl ll Kl, .int .i64 el])] ∧ Hid (negB ml = bl) ∧ IsNat wx (.slice pl ll Kl) ml.natAbs ∧ Hid (DyF ml el (dq 1 f) 300 781) ∧ Hold32 w7 wx)
            case first =>
              have HH := (Hold.drew w7).to32
              replace nA := nA.hold32 HH
              replace nR := nR.hold32 HH
              replace S := S.drew
              refine wp_region_held_drew (S := fun W => W.cell? ⟨w.heap.size, 0, none⟩ = some (.bool bA) ∧ W.cell? ⟨w.heap.size, 1, none⟩ = some (.slice pA lA KA) ∧ W.cell? ⟨w.heap.size, 2, none⟩ = some (.int .i64 eA)) (by kernel_rfl) ⟨S.c 0 0 rfl rfl, S.c 0 1 rfl rfl, S.c 0 2 rfl rfl⟩ (fun hS => ?_)
              generalize w7.drew = w8 at S nA nR HH hS ⊢
              refine wpAnyH_take (i := 1) (v := ?_) ((List.getElem?_toArray ..).trans rfl) (by kernel_rfl) (by kernel_rfl) (by kernel_rfl) (fun _ _ _ h => h) (Or.inl ⟨rfl, fun W hW => ?_⟩) hS ?_
              rotate_left
              · obtain ⟨hW0, hW1, hW2⟩ := hW; go_simp; try first | rfl | (rw [if_neg (by first | omega | (simp only [ByteArray.size_append]; first | omega | (have h1 : (ByteArray.mk #[47]).size = 1 := rfl; omega)))]; try rfl) | kernel_rfl
              try simp only [Act.put, List.setIfInBounds_toArray, List.set_cons_zero, List.set_cons_succ]
              refine wpAnyH_take (i := 2) (v := ?_) ((List.getElem?_toArray ..).trans rfl) (by kernel_rfl) (by kernel_rfl) (by kernel_rfl) (fun _ _ _ h => h) (Or.inl ⟨rfl, fun W hW => ?_⟩) hS ?_
              rotate_left
              · obtain ⟨hW0, hW1, hW2⟩ := hW; go_simp; try first | rfl | (rw [if_neg (by first | omega | (simp only [ByteArray.size_append]; first | omega | (have h1 : (ByteArray.mk #[47]).size = 1 := rfl; omega)))]; try rfl) | kernel_rfl
              try simp only [Act.put, List.setIfInBounds_toArray, List.set_cons_zero, List.set_cons_succ]
              refine wpAnyH_take (i := 3) (v := ?_) ((List.getElem?_toArray ..).trans rfl) (by kernel_rfl) (by kernel_rfl) (by kernel_rfl) (fun _ _ _ h => h) (Or.inl ⟨rfl, fun W hW => ?_⟩) hS ?_
              rotate_left
              · obtain ⟨hW0, hW1, hW2⟩ := hW; go_simp; try first | rfl | (rw [if_neg (by first | omega | (simp only [ByteArray.size_append]; first | omega | (have h1 : (ByteArray.mk #[47]).size = 1 := rfl; omega)))]; try rfl) | kernel_rfl
              try simp only [Act.put, List.setIfInBounds_toArray, List.set_cons_zero, List.set_cons_succ]
              refine wpAnyH_take (i := 4) (v := ?_) ((List.getElem?_toArray ..).trans rfl) (by kernel_rfl) (by kernel_rfl) (by kernel_rfl) (fun _ _ _ h => h) (Or.inl ⟨rfl, fun W hW => ?_⟩) hS ?_
              rotate_left
              · obtain ⟨hW0, hW1, hW2⟩ := hW; go_simp; try first | rfl | (rw [if_neg (by first | omega | (simp only [ByteArray.size_append]; first | omega | (have h1 : (ByteArray.mk #[47]).size = 1 := rfl; omega)))]; try rfl) | kernel_rfl
              try simp only [Act.put, List.setIfInBounds_toArray, List.set_cons_zero, List.set_cons_succ]
              refine wpAnyH_take (i := 5) (v := ?_) ((List.getElem?_toArray ..).trans rfl) (by kernel_rfl) (by kernel_rfl) (by kernel_rfl) (fun _ _ _ h => h) (Or.inl ⟨rfl, fun W hW => ?_⟩) hS ?_
              rotate_left
              · obtain ⟨hW0, hW1, hW2⟩ := hW; go_simp; try first | rfl | (rw [if_neg (by first | omega | (simp only [ByteArray.size_append]; first | omega | (have h1 : (ByteArray.mk #[47]).size = 1 := rfl; omega)))]; try rfl) | kernel_rfl
              try simp only [Act.put, List.setIfInBounds_toArray, List.set_cons_zero, List.set_cons_succ]
              refine wpAnyH_take (i := 8) (v := ?_) ((List.getElem?_toArray ..).trans rfl) (by kernel_rfl) (by kernel_rfl) (by kernel_rfl) (fun _ _ _ h => h) (Or.inl ⟨rfl, fun W hW => ?_⟩) hS ?_
              rotate_left
              · obtain ⟨hW0, hW1, hW2⟩ := hW; go_simp; try first | rfl | (rw [if_neg (by first | omega | (simp only [ByteArray.size_append]; first | omega | (have h1 : (ByteArray.mk #[47]).size = 1 := rfl; omega)))]; try rfl) | kernel_rfl
              try simp only [Act.put, List.setIfInBounds_toArray, List.set_cons_zero, List.set_cons_succ]
              refine wpAnyH_ready (rs := [0, 14]) (by kernel_rfl) (by simp) (AllReadyH.cons ((List.getElem?_toArray ..).trans rfl) (fun KK hKK => ?_) (AllReadyH.cons ((List.getElem?_toArray ..).trans rfl) (fun KK hKK => ?_) AllReadyH.nil))
              ·
                go_simp
                clear hS
                refine (S.call (wof_any 1 _ (by decide) (by decide))).mono ?_
                clear S
                rintro e w9 ⟨⟨_, rfl, po, lo, Ko, rfl, no⟩, S, H⟩
                replace nA := nA.hold H
                replace nR := nR.hold H
                replace HH := HH.trans H.to32
                clear H
                go_wp2_with fail
                refine hKK.out _ _ ⟨S.c 0 0 rfl rfl, S.c 0 1 rfl rfl, S.c 0 2 rfl rfl⟩ (fun hS => ?_)
                clear hKK KK
                try simp only [Act.put, List.setIfInBounds_toArray, List.set_cons_zero, List.set_cons_succ]
                refine wpAnyH_ready (rs := [6, 14]) (by kernel_rfl) (by simp) (AllReadyH.cons ((List.getElem?_toArray ..).trans rfl) (fun KK hKK => ?_) (AllReadyH.cons ((List.getElem?_toArray ..).trans rfl) (fun KK hKK => ?_) AllReadyH.nil))
                ·
                  go_simp
                  clear hS
                  refine (S.call (bits_nat nA (dA.out.max (by decide)) HT2.out)).mono ?_
                  clear S
                  rintro e w10 ⟨rfl, S, H⟩
                  replace nA := nA.hold H
                  replace nR := nR.hold H
                  replace no := no.hold H
                  replace HH := HH.trans H.to32
                  clear H
                  go_wp2_with fail
                  refine hKK.out _ _ ⟨S.c 0 0 rfl rfl, S.c 0 1 rfl rfl, S.c 0 2 rfl rfl⟩ (fun hS => ?_)
                  clear hKK KK
                  try simp only [Act.put, List.setIfInBounds_toArray, List.set_cons_zero, List.set_cons_succ]
                  refine wpAnyH_take (i := 7) (v := ?_) ((List.getElem?_toArray ..).trans rfl) (by kernel_rfl) (by kernel_rfl) (by kernel_rfl) (fun _ _ _ h => h) (Or.inl ⟨rfl, fun W hW => ?_⟩) hS ?_
                  rotate_left
                  · obtain ⟨hW0, hW1, hW2⟩ := hW; go_simp; try first | rfl | (rw [if_neg (by first | omega | (simp only [ByteArray.size_append]; first | omega | (have h1 : (ByteArray.mk #[47]).size = 1 := rfl; omega)))]; try rfl) | kernel_rfl
                  try simp only [Act.put, List.setIfInBounds_toArray, List.set_cons_zero, List.set_cons_succ]
                  refine wpAnyH_take (i := 9) (v := ?_) ((List.getElem?_toArray ..).trans rfl) (by kernel_rfl) (by kernel_rfl) (by kernel_rfl) (fun _ _ _ h => h) (Or.inl ⟨rfl, fun W hW => ?_⟩) hS ?_
                  rotate_left
                  · obtain ⟨hW0, hW1, hW2⟩ := hW; go_simp; try first | rfl | (rw [if_neg (by first | omega | (simp only [ByteArray.size_append]; first | omega | (have h1 : (ByteArray.mk #[47]).size = 1 := rfl; omega)))]; try rfl) | kernel_rfl
                  try simp only [Act.put, List.setIfInBounds_toArray, List.set_cons_zero, List.set_cons_succ]
                  refine wpAnyH_ready (rs := [10, 14]) (by kernel_rfl) (by simp) (AllReadyH.cons ((List.getElem?_toArray ..).trans rfl) (fun KK hKK => ?_) (AllReadyH.cons ((List.getElem?_toArray ..).trans rfl) (fun KK hKK => ?_) AllReadyH.nil))
                  ·
                    go_simp
                    clear hS
                    refine (S.call (dmake_any (HT.out.below S.below) ⟨_, _, _, rfl, no⟩ HZ.out (by decide) (dq 1 f) rfl)).mono ?_
                    clear S
                    rintro e w11 ⟨⟨_, rfl, bl, pl, ll, Kl, ml, el, rfl, hl, nl, dl⟩, S, H⟩
                    replace nA := nA.hold H
                    replace nR := nR.hold H
                    replace no := no.hold H
                    replace HH := HH.trans H.to32
                    clear H
                    go_wp2_with fail
                    refine hKK.out _ _ ⟨S.c 0 0 rfl rfl, S.c 0 1 rfl rfl, S.c 0 2 rfl rfl⟩ (fun hS => ?_)
                    clear hKK KK
                    try simp only [Act.put, List.setIfInBounds_toArray, List.set_cons_zero, List.set_cons_succ]
                    refine wpAnyH_take (i := 11) (v := ?_) ((List.getElem?_toArray ..).trans rfl) (by kernel_rfl) (by kernel_rfl) (by kernel_rfl) (fun _ _ _ h => h) (Or.inl ⟨rfl, fun W hW => ?_⟩) hS ?_
                    rotate_left
                    · obtain ⟨hW0, hW1, hW2⟩ := hW; go_simp; try first | rfl | (rw [if_neg (by first | omega | (simp only [ByteArray.size_append]; first | omega | (have h1 : (ByteArray.mk #[47]).size = 1 := rfl; omega)))]; try rfl) | kernel_rfl
                    try simp only [Act.put, List.setIfInBounds_toArray, List.set_cons_zero, List.set_cons_succ]
                    refine wpAnyH_take (i := 12) (v := ?_) ((List.getElem?_toArray ..).trans rfl) (by kernel_rfl) (by kernel_rfl) (by kernel_rfl) (fun _ _ _ h => h) (Or.inl ⟨rfl, fun W hW => ?_⟩) hS ?_
                    rotate_left
                    · obtain ⟨hW0, hW1, hW2⟩ := hW; go_simp; try first | rfl | (rw [if_neg (by first | omega | (simp only [ByteArray.size_append]; first | omega | (have h1 : (ByteArray.mk #[47]).size = 1 := rfl; omega)))]; try rfl) | kernel_rfl
                    try simp only [Act.put, List.setIfInBounds_toArray, List.set_cons_zero, List.set_cons_succ]
                    refine wpAnyH_take (i := 13) (v := ?_) ((List.getElem?_toArray ..).trans rfl) (by kernel_rfl) (by kernel_rfl) (by kernel_rfl) (fun _ _ _ h => h) (Or.inl ⟨rfl, fun W hW => ?_⟩) hS ?_
                    rotate_left
                    · obtain ⟨hW0, hW1, hW2⟩ := hW; go_simp; try first | rfl | (rw [if_neg (by first | omega | (simp only [ByteArray.size_append]; first | omega | (have h1 : (ByteArray.mk #[47]).size = 1 := rfl; omega)))]; try rfl) | kernel_rfl
                    try simp only [Act.put, List.setIfInBounds_toArray, List.set_cons_zero, List.set_cons_succ]
                    refine wpAnyH_ready (rs := [14]) (by kernel_rfl) (by simp) (AllReadyH.cons ((List.getElem?_toArray ..).trans rfl) (fun KK hKK => ?_) AllReadyH.nil)
                    go_simp
                    clear hS
                    have H := S.hnew 27 [.bool false, .slice none 0 0, .int .i64 0]
                    replace S := S.alloc 27 [.bool false, .slice none 0 0, .int .i64 0] (w11.heap.size)
                    try simp only [List.cons_append, List.nil_append] at S
                    replace nA := nA.hold H
                    replace nR := nR.hold H
                    replace no := no.hold H
                    replace nl := nl.hold H
                    replace HH := HH.trans H.to32
                    clear H
                    refine hKK.out _ _ ⟨S.c 0 0 rfl rfl, S.c 0 1 rfl rfl, S.c 0 2 rfl rfl⟩ (fun hS => ?_)
                    generalize (w11.alloc (.cells #[.bool false, .slice none 0 0, .int .i64 0] 27)) = w12 at S nA nR no nl HH hS ⊢
                    clear hKK KK
                    try simp only [Act.put, List.setIfInBounds_toArray, List.set_cons_zero, List.set_cons_succ]
                    refine wpAnyH_ready (rs := [15]) (by kernel_rfl) (by simp) (AllReadyH.cons ((List.getElem?_toArray ..).trans rfl) (fun KK hKK => ?_) AllReadyH.nil)
                    have c0 := S.c 3 0 rfl rfl
                    have f0 := S.f 3 0 rfl
                    have c1 := S.c 3 1 rfl rfl
                    have f1 := S.f 3 1 rfl
                    have c2 := S.c 3 2 rfl rfl
                    have f2 := S.f 3 2 rfl
                    go_simp
                    clear hS c0 f0 c1 f1 c2 f2
                    have H := S.hset 3 0 (.bool bl) rfl rfl (by intro q n e; cases e)
                    replace S := S.set 3 0 (.bool bl) rfl
                    replace nA := nA.hold H
                    replace nR := nR.hold H
                    replace no := no.hold H
                    replace nl := nl.hold H
                    replace HH := HH.trans H.to32
                    clear H
                    have H := S.hset 3 1 (.slice pl ll Kl) rfl rfl (by intro q n e; cases e)
                    replace S := S.set 3 1 (.slice pl ll Kl) rfl
                    replace nA := nA.hold H
                    replace nR := nR.hold H
                    replace no := no.hold H
                    replace nl := nl.hold H
                    replace HH := HH.trans H.to32
                    clear H
                    have H := S.hset32 3 2 (.int .i64 el) rfl rfl (by intro n e; cases e)
                    replace S := S.set 3 2 (.int .i64 el) rfl
                    replace nA := nA.hold32 H
                    replace nR := nR.hold32 H
                    replace no := no.hold32 H
                    replace nl := nl.hold32 H
                    replace HH := HH.trans H
                    clear H
                    refine hKK.out _ _ ⟨S.c 0 0 rfl rfl, S.c 0 1 rfl rfl, S.c 0 2 rfl rfl⟩ (fun hS => ?_)
                    generalize (((w12.setCell ⟨w11.heap.size, 0, none⟩ (.bool bl)).setCell ⟨w11.heap.size, 1, none⟩ (.slice pl ll Kl)).setCell ⟨w11.heap.size, 2, none⟩ (.int .i64 el)) = w13 at S nA nR no nl HH hS ⊢
                    clear hKK KK
                    try simp only [Act.put, List.setIfInBounds_toArray, List.set_cons_zero, List.set_cons_succ]
                    refine wpAnyH_ready (rs := [16]) (by kernel_rfl) (by simp) (AllReadyH.cons ((List.getElem?_toArray ..).trans rfl) (fun KK hKK => ?_) AllReadyH.nil)
                    go_simp
                    refine hKK.out _ _ hS (fun hS => ?_)
                    clear hKK KK
                    try simp only [Act.put, List.setIfInBounds_toArray, List.set_cons_zero, List.set_cons_succ]
                    refine wpAnyH_done (by kernel_rfl) ?_ _
                    go_wp2_with fail
                    go_meet
                    case rel => exact ⟨w11.heap.size, bl, pl, ll, Kl, ml, el, rfl, rfl, S, hl, nl, dl, HH⟩
                  ·
                    go_simp
                    clear hS
                    have H := S.hnew 27 [.bool false, .slice none 0 0, .int .i64 0]
                    replace S := S.alloc 27 [.bool false, .slice none 0 0, .int .i64 0] (w10.heap.size)
                    try simp only [List.cons_append, List.nil_append] at S
                    replace nA := nA.hold H
                    replace nR := nR.hold H
                    replace no := no.hold H
                    replace HH := HH.trans H.to32
                    clear H
                    refine hKK.out _ _ ⟨S.c 0 0 rfl rfl, S.c 0 1 rfl rfl, S.c 0 2 rfl rfl⟩ (fun hS => ?_)
                    generalize (w10.alloc (.cells #[.bool false, .slice none 0 0, .int .i64 0] 27)) = w14 at S nA nR no HH hS ⊢
                    clear hKK KK
                    try simp only [Act.put, List.setIfInBounds_toArray, List.set_cons_zero, List.set_cons_succ]
                    refine wpAnyH_ready (rs := [10]) (by kernel_rfl) (by simp) (AllReadyH.cons ((List.getElem?_toArray ..).trans rfl) (fun KK hKK => ?_) AllReadyH.nil)
                    go_simp
                    clear hS
                    refine (S.call (dmake_any (HT.out.below S.below) ⟨_, _, _, rfl, no⟩ HZ.out (by decide) (dq 1 f) rfl)).mono ?_
                    clear S
                    rintro e w15 ⟨⟨_, rfl, bl, pl, ll, Kl, ml, el, rfl, hl, nl, dl⟩, S, H⟩
                    replace nA := nA.hold H
                    replace nR := nR.hold H
                    replace no := no.hold H
                    replace HH := HH.trans H.to32
                    clear H
                    go_wp2_with fail
                    refine hKK.out _ _ ⟨S.c 0 0 rfl rfl, S.c 0 1 rfl rfl, S.c 0 2 rfl rfl⟩ (fun hS => ?_)
                    clear hKK KK
                    try simp only [Act.put, List.setIfInBounds_toArray, List.set_cons_zero, List.set_cons_succ]
                    refine wpAnyH_take (i := 11) (v := ?_) ((List.getElem?_toArray ..).trans rfl) (by kernel_rfl) (by kernel_rfl) (by kernel_rfl) (fun _ _ _ h => h) (Or.inl ⟨rfl, fun W hW => ?_⟩) hS ?_
                    rotate_left
                    · obtain ⟨hW0, hW1, hW2⟩ := hW; go_simp; try first | rfl | (rw [if_neg (by first | omega | (simp only [ByteArray.size_append]; first | omega | (have h1 : (ByteArray.mk #[47]).size = 1 := rfl; omega)))]; try rfl) | kernel_rfl
                    try simp only [Act.put, List.setIfInBounds_toArray, List.set_cons_zero, List.set_cons_succ]
                    refine wpAnyH_take (i := 12) (v := ?_) ((List.getElem?_toArray ..).trans rfl) (by kernel_rfl) (by kernel_rfl) (by kernel_rfl) (fun _ _ _ h => h) (Or.inl ⟨rfl, fun W hW => ?_⟩) hS ?_
                    rotate_left
                    · obtain ⟨hW0, hW1, hW2⟩ := hW; go_simp; try first | rfl | (rw [if_neg (by first | omega | (simp only [ByteArray.size_append]; first | omega | (have h1 : (ByteArray.mk #[47]).size = 1 := rfl; omega)))]; try rfl) | kernel_rfl
                    try simp only [Act.put, List.setIfInBounds_toArray, List.set_cons_zero, List.set_cons_succ]
                    refine wpAnyH_take (i := 13) (v := ?_) ((List.getElem?_toArray ..).trans rfl) (by kernel_rfl) (by kernel_rfl) (by kernel_rfl) (fun _ _ _ h => h) (Or.inl ⟨rfl, fun W hW => ?_⟩) hS ?_
                    rotate_left
                    · obtain ⟨hW0, hW1, hW2⟩ := hW; go_simp; try first | rfl | (rw [if_neg (by first | omega | (simp only [ByteArray.size_append]; first | omega | (have h1 : (ByteArray.mk #[47]).size = 1 := rfl; omega)))]; try rfl) | kernel_rfl
                    try simp only [Act.put, List.setIfInBounds_toArray, List.set_cons_zero, List.set_cons_succ]
                    refine wpAnyH_ready (rs := [15]) (by kernel_rfl) (by simp) (AllReadyH.cons ((List.getElem?_toArray ..).trans rfl) (fun KK hKK => ?_) AllReadyH.nil)
                    have c0 := S.c 3 0 rfl rfl
                    have f0 := S.f 3 0 rfl
                    have c1 := S.c 3 1 rfl rfl
                    have f1 := S.f 3 1 rfl
                    have c2 := S.c 3 2 rfl rfl
                    have f2 := S.f 3 2 rfl
                    go_simp
                    clear hS c0 f0 c1 f1 c2 f2
                    have H := S.hset 3 0 (.bool bl) rfl rfl (by intro q n e; cases e)
                    replace S := S.set 3 0 (.bool bl) rfl
                    replace nA := nA.hold H
                    replace nR := nR.hold H
                    replace no := no.hold H
                    replace nl := nl.hold H
                    replace HH := HH.trans H.to32
                    clear H
                    have H := S.hset 3 1 (.slice pl ll Kl) rfl rfl (by intro q n e; cases e)
                    replace S := S.set 3 1 (.slice pl ll Kl) rfl
                    replace nA := nA.hold H
                    replace nR := nR.hold H
                    replace no := no.hold H
                    replace nl := nl.hold H
                    replace HH := HH.trans H.to32
                    clear H
                    have H := S.hset32 3 2 (.int .i64 el) rfl rfl (by intro n e; cases e)
                    replace S := S.set 3 2 (.int .i64 el) rfl
                    replace nA := nA.hold32 H
                    replace nR := nR.hold32 H
                    replace no := no.hold32 H
                    replace nl := nl.hold32 H
                    replace HH := HH.trans H
                    clear H
                    refine hKK.out _ _ ⟨S.c 0 0 rfl rfl, S.c 0 1 rfl rfl, S.c 0 2 rfl rfl⟩ (fun hS => ?_)
                    generalize (((w15.setCell ⟨w10.heap.size, 0, none⟩ (.bool bl)).setCell ⟨w10.heap.size, 1, none⟩ (.slice pl ll Kl)).setCell ⟨w10.heap.size, 2, none⟩ (.int .i64 el)) = w16 at S nA nR no nl HH hS ⊢
                    clear hKK KK
                    try simp only [Act.put, List.setIfInBounds_toArray, List.set_cons_zero, List.set_cons_succ]
                    refine wpAnyH_ready (rs := [16]) (by kernel_rfl) (by simp) (AllReadyH.cons ((List.getElem?_toArray ..).trans rfl) (fun KK hKK => ?_) AllReadyH.nil)
                    go_simp
                    refine hKK.out _ _ hS (fun hS => ?_)
                    clear hKK KK
                    try simp only [Act.put, List.setIfInBounds_toArray, List.set_cons_zero, List.set_cons_succ]
                    refine wpAnyH_done (by kernel_rfl) ?_ _
                    go_wp2_with fail
                    go_meet
                    case rel => exact ⟨w10.heap.size, bl, pl, ll, Kl, ml, el, rfl, rfl, S, hl, nl, dl, HH⟩
                ·
                  go_simp
                  clear hS
                  have H := S.hnew 27 [.bool false, .slice none 0 0, .int .i64 0]
                  replace S := S.alloc 27 [.bool false, .slice none 0 0, .int .i64 0] (w9.heap.size)
                  try simp only [List.cons_append, List.nil_append] at S
                  replace nA := nA.hold H
                  replace nR := nR.hold H
                  replace no := no.hold H
                  replace HH := HH.trans H.to32
                  clear H
                  refine hKK.out _ _ ⟨S.c 0 0 rfl rfl, S.c 0 1 rfl rfl, S.c 0 2 rfl rfl⟩ (fun hS => ?_)
                  generalize (w9.alloc (.cells #[.bool false, .slice none 0 0, .int .i64 0] 27)) = w17 at S nA nR no HH hS ⊢
                  clear hKK KK
                  try simp only [Act.put, List.setIfInBounds_toArray, List.set_cons_zero, List.set_cons_succ]
                  refine wpAnyH_ready (rs := [6]) (by kernel_rfl) (by simp) (AllReadyH.cons ((List.getElem?_toArray ..).trans rfl) (fun KK hKK => ?_) AllReadyH.nil)
                  go_simp
                  clear hS
                  refine (S.call (bits_nat nA (dA.out.max (by decide)) HT2.out)).mono ?_
                  clear S
                  rintro e w18 ⟨rfl, S, H⟩
                  replace nA := nA.hold H
                  replace nR := nR.hold H
                  replace no := no.hold H
                  replace HH := HH.trans H.to32
                  clear H
                  go_wp2_with fail
                  refine hKK.out _ _ ⟨S.c 0 0 rfl rfl, S.c 0 1 rfl rfl, S.c 0 2 rfl rfl⟩ (fun hS => ?_)
                  clear hKK KK
                  try simp only [Act.put, List.setIfInBounds_toArray, List.set_cons_zero, List.set_cons_succ]
                  refine wpAnyH_take (i := 7) (v := ?_) ((List.getElem?_toArray ..).trans rfl) (by kernel_rfl) (by kernel_rfl) (by kernel_rfl) (fun _ _ _ h => h) (Or.inl ⟨rfl, fun W hW => ?_⟩) hS ?_
                  rotate_left
                  · obtain ⟨hW0, hW1, hW2⟩ := hW; go_simp; try first | rfl | (rw [if_neg (by first | omega | (simp only [ByteArray.size_append]; first | omega | (have h1 : (ByteArray.mk #[47]).size = 1 := rfl; omega)))]; try rfl) | kernel_rfl
                  try simp only [Act.put, List.setIfInBounds_toArray, List.set_cons_zero, List.set_cons_succ]
                  refine wpAnyH_take (i := 9) (v := ?_) ((List.getElem?_toArray ..).trans rfl) (by kernel_rfl) (by kernel_rfl) (by kernel_rfl) (fun _ _ _ h => h) (Or.inl ⟨rfl, fun W hW => ?_⟩) hS ?_
                  rotate_left
                  · obtain ⟨hW0, hW1, hW2⟩ := hW; go_simp; try first | rfl | (rw [if_neg (by first | omega | (simp only [ByteArray.size_append]; first | omega | (have h1 : (ByteArray.mk #[47]).size = 1 := rfl; omega)))]; try rfl) | kernel_rfl
                  try simp only [Act.put, List.setIfInBounds_toArray, List.set_cons_zero, List.set_cons_succ]
                  refine wpAnyH_ready (rs := [10]) (by kernel_rfl) (by simp) (AllReadyH.cons ((List.getElem?_toArray ..).trans rfl) (fun KK hKK => ?_) AllReadyH.nil)
                  go_simp
                  clear hS
                  refine (S.call (dmake_any (HT.out.below S.below) ⟨_, _, _, rfl, no⟩ HZ.out (by decide) (dq 1 f) rfl)).mono ?_
                  clear S
                  rintro e w19 ⟨⟨_, rfl, bl, pl, ll, Kl, ml, el, rfl, hl, nl, dl⟩, S, H⟩
                  replace nA := nA.hold H
                  replace nR := nR.hold H
                  replace no := no.hold H
                  replace HH := HH.trans H.to32
                  clear H
                  go_wp2_with fail
                  refine hKK.out _ _ ⟨S.c 0 0 rfl rfl, S.c 0 1 rfl rfl, S.c 0 2 rfl rfl⟩ (fun hS => ?_)
                  clear hKK KK
                  try simp only [Act.put, List.setIfInBounds_toArray, List.set_cons_zero, List.set_cons_succ]
                  refine wpAnyH_take (i := 11) (v := ?_) ((List.getElem?_toArray ..).trans rfl) (by kernel_rfl) (by kernel_rfl) (by kernel_rfl) (fun _ _ _ h => h) (Or.inl ⟨rfl, fun W hW => ?_⟩) hS ?_
                  rotate_left
                  · obtain ⟨hW0, hW1, hW2⟩ := hW; go_simp; try first | rfl | (rw [if_neg (by first | omega | (simp only [ByteArray.size_append]; first | omega | (have h1 : (ByteArray.mk #[47]).size = 1 := rfl; omega)))]; try rfl) | kernel_rfl
                  try simp only [Act.put, List.setIfInBounds_toArray, List.set_cons_zero, List.set_cons_succ]
                  refine wpAnyH_take (i := 12) (v := ?_) ((List.getElem?_toArray ..).trans rfl) (by kernel_rfl) (by kernel_rfl) (by kernel_rfl) (fun _ _ _ h => h) (Or.inl ⟨rfl, fun W hW => ?_⟩) hS ?_
                  rotate_left
                  · obtain ⟨hW0, hW1, hW2⟩ := hW; go_simp; try first | rfl | (rw [if_neg (by first | omega | (simp only [ByteArray.size_append]; first | omega | (have h1 : (ByteArray.mk #[47]).size = 1 := rfl; omega)))]; try rfl) | kernel_rfl
                  try simp only [Act.put, List.setIfInBounds_toArray, List.set_cons_zero, List.set_cons_succ]
                  refine wpAnyH_take (i := 13) (v := ?_) ((List.getElem?_toArray ..).trans rfl) (by kernel_rfl) (by kernel_rfl) (by kernel_rfl) (fun _ _ _ h => h) (Or.inl ⟨rfl, fun W hW => ?_⟩) hS ?_
                  rotate_left
                  · obtain ⟨hW0, hW1, hW2⟩ := hW; go_simp; try first | rfl | (rw [if_neg (by first | omega | (simp only [ByteArray.size_append]; first | omega | (have h1 : (ByteArray.mk #[47]).size = 1 := rfl; omega)))]; try rfl) | kernel_rfl
                  try simp only [Act.put, List.setIfInBounds_toArray, List.set_cons_zero, List.set_cons_succ]
                  refine wpAnyH_ready (rs := [15]) (by kernel_rfl) (by simp) (AllReadyH.cons ((List.getElem?_toArray ..).trans rfl) (fun KK hKK => ?_) AllReadyH.nil)
                  have c0 := S.c 3 0 rfl rfl
                  have f0 := S.f 3 0 rfl
                  have c1 := S.c 3 1 rfl rfl
                  have f1 := S.f 3 1 rfl
                  have c2 := S.c 3 2 rfl rfl
                  have f2 := S.f 3 2 rfl
                  go_simp
                  clear hS c0 f0 c1 f1 c2 f2
                  have H := S.hset 3 0 (.bool bl) rfl rfl (by intro q n e; cases e)
                  replace S := S.set 3 0 (.bool bl) rfl
                  replace nA := nA.hold H
                  replace nR := nR.hold H
                  replace no := no.hold H
                  replace nl := nl.hold H
                  replace HH := HH.trans H.to32
                  clear H
                  have H := S.hset 3 1 (.slice pl ll Kl) rfl rfl (by intro q n e; cases e)
                  replace S := S.set 3 1 (.slice pl ll Kl) rfl
                  replace nA := nA.hold H
                  replace nR := nR.hold H
                  replace no := no.hold H
                  replace nl := nl.hold H
                  replace HH := HH.trans H.to32
                  clear H
                  have H := S.hset32 3 2 (.int .i64 el) rfl rfl (by intro n e; cases e)
                  replace S := S.set 3 2 (.int .i64 el) rfl
                  replace nA := nA.hold32 H
                  replace nR := nR.hold32 H
                  replace no := no.hold32 H
                  replace nl := nl.hold32 H
                  replace HH := HH.trans H
                  clear H
                  refine hKK.out _ _ ⟨S.c 0 0 rfl rfl, S.c 0 1 rfl rfl, S.c 0 2 rfl rfl⟩ (fun hS => ?_)
                  generalize (((w19.setCell ⟨w9.heap.size, 0, none⟩ (.bool bl)).setCell ⟨w9.heap.size, 1, none⟩ (.slice pl ll Kl)).setCell ⟨w9.heap.size, 2, none⟩ (.int .i64 el)) = w20 at S nA nR no nl HH hS ⊢
                  clear hKK KK
                  try simp only [Act.put, List.setIfInBounds_toArray, List.set_cons_zero, List.set_cons_succ]
                  refine wpAnyH_ready (rs := [16]) (by kernel_rfl) (by simp) (AllReadyH.cons ((List.getElem?_toArray ..).trans rfl) (fun KK hKK => ?_) AllReadyH.nil)
                  go_simp
                  refine hKK.out _ _ hS (fun hS => ?_)
                  clear hKK KK
                  try simp only [Act.put, List.setIfInBounds_toArray, List.set_cons_zero, List.set_cons_succ]
                  refine wpAnyH_done (by kernel_rfl) ?_ _
                  go_wp2_with fail
                  go_meet
                  case rel => exact ⟨w9.heap.size, bl, pl, ll, Kl, ml, el, rfl, rfl, S, hl, nl, dl, HH⟩
              ·
                go_simp
                clear hS
                have H := S.hnew 27 [.bool false, .slice none 0 0, .int .i64 0]
                replace S := S.alloc 27 [.bool false, .slice none 0 0, .int .i64 0] (w8.heap.size)
                try simp only [List.cons_append, List.nil_append] at S
                replace nA := nA.hold H
                replace nR := nR.hold H
                replace HH := HH.trans H.to32
                clear H
                refine hKK.out _ _ ⟨S.c 0 0 rfl rfl, S.c 0 1 rfl rfl, S.c 0 2 rfl rfl⟩ (fun hS => ?_)
                generalize (w8.alloc (.cells #[.bool false, .slice none 0 0, .int .i64 0] 27)) = w21 at S nA nR HH hS ⊢
                clear hKK KK
                try simp only [Act.put, List.setIfInBounds_toArray, List.set_cons_zero, List.set_cons_succ]
                refine wpAnyH_ready (rs := [0]) (by kernel_rfl) (by simp) (AllReadyH.cons ((List.getElem?_toArray ..).trans rfl) (fun KK hKK => ?_) AllReadyH.nil)
                go_simp
                clear hS
                refine (S.call (wof_any 1 _ (by decide) (by decide))).mono ?_
                clear S
                rintro e w22 ⟨⟨_, rfl, po, lo, Ko, rfl, no⟩, S, H⟩
                replace nA := nA.hold H
                replace nR := nR.hold H
                replace HH := HH.trans H.to32
                clear H
                go_wp2_with fail
                refine hKK.out _ _ ⟨S.c 0 0 rfl rfl, S.c 0 1 rfl rfl, S.c 0 2 rfl rfl⟩ (fun hS => ?_)
                clear hKK KK
                try simp only [Act.put, List.setIfInBounds_toArray, List.set_cons_zero, List.set_cons_succ]
                refine wpAnyH_ready (rs := [6]) (by kernel_rfl) (by simp) (AllReadyH.cons ((List.getElem?_toArray ..).trans rfl) (fun KK hKK => ?_) AllReadyH.nil)
                go_simp
                clear hS
                refine (S.call (bits_nat nA (dA.out.max (by decide)) HT2.out)).mono ?_
                clear S
                rintro e w23 ⟨rfl, S, H⟩
                replace nA := nA.hold H
                replace nR := nR.hold H
                replace no := no.hold H
                replace HH := HH.trans H.to32
                clear H
                go_wp2_with fail
                refine hKK.out _ _ ⟨S.c 0 0 rfl rfl, S.c 0 1 rfl rfl, S.c 0 2 rfl rfl⟩ (fun hS => ?_)
                clear hKK KK
                try simp only [Act.put, List.setIfInBounds_toArray, List.set_cons_zero, List.set_cons_succ]
                refine wpAnyH_take (i := 7) (v := ?_) ((List.getElem?_toArray ..).trans rfl) (by kernel_rfl) (by kernel_rfl) (by kernel_rfl) (fun _ _ _ h => h) (Or.inl ⟨rfl, fun W hW => ?_⟩) hS ?_
                rotate_left
                · obtain ⟨hW0, hW1, hW2⟩ := hW; go_simp; try first | rfl | (rw [if_neg (by first | omega | (simp only [ByteArray.size_append]; first | omega | (have h1 : (ByteArray.mk #[47]).size = 1 := rfl; omega)))]; try rfl) | kernel_rfl
                try simp only [Act.put, List.setIfInBounds_toArray, List.set_cons_zero, List.set_cons_succ]
                refine wpAnyH_take (i := 9) (v := ?_) ((List.getElem?_toArray ..).trans rfl) (by kernel_rfl) (by kernel_rfl) (by kernel_rfl) (fun _ _ _ h => h) (Or.inl ⟨rfl, fun W hW => ?_⟩) hS ?_
                rotate_left
                · obtain ⟨hW0, hW1, hW2⟩ := hW; go_simp; try first | rfl | (rw [if_neg (by first | omega | (simp only [ByteArray.size_append]; first | omega | (have h1 : (ByteArray.mk #[47]).size = 1 := rfl; omega)))]; try rfl) | kernel_rfl
                try simp only [Act.put, List.setIfInBounds_toArray, List.set_cons_zero, List.set_cons_succ]
                refine wpAnyH_ready (rs := [10]) (by kernel_rfl) (by simp) (AllReadyH.cons ((List.getElem?_toArray ..).trans rfl) (fun KK hKK => ?_) AllReadyH.nil)
                go_simp
                clear hS
                refine (S.call (dmake_any (HT.out.below S.below) ⟨_, _, _, rfl, no⟩ HZ.out (by decide) (dq 1 f) rfl)).mono ?_
                clear S
                rintro e w24 ⟨⟨_, rfl, bl, pl, ll, Kl, ml, el, rfl, hl, nl, dl⟩, S, H⟩
                replace nA := nA.hold H
                replace nR := nR.hold H
                replace no := no.hold H
                replace HH := HH.trans H.to32
                clear H
                go_wp2_with fail
                refine hKK.out _ _ ⟨S.c 0 0 rfl rfl, S.c 0 1 rfl rfl, S.c 0 2 rfl rfl⟩ (fun hS => ?_)
                clear hKK KK
                try simp only [Act.put, List.setIfInBounds_toArray, List.set_cons_zero, List.set_cons_succ]
                refine wpAnyH_take (i := 11) (v := ?_) ((List.getElem?_toArray ..).trans rfl) (by kernel_rfl) (by kernel_rfl) (by kernel_rfl) (fun _ _ _ h => h) (Or.inl ⟨rfl, fun W hW => ?_⟩) hS ?_
                rotate_left
                · obtain ⟨hW0, hW1, hW2⟩ := hW; go_simp; try first | rfl | (rw [if_neg (by first | omega | (simp only [ByteArray.size_append]; first | omega | (have h1 : (ByteArray.mk #[47]).size = 1 := rfl; omega)))]; try rfl) | kernel_rfl
                try simp only [Act.put, List.setIfInBounds_toArray, List.set_cons_zero, List.set_cons_succ]
                refine wpAnyH_take (i := 12) (v := ?_) ((List.getElem?_toArray ..).trans rfl) (by kernel_rfl) (by kernel_rfl) (by kernel_rfl) (fun _ _ _ h => h) (Or.inl ⟨rfl, fun W hW => ?_⟩) hS ?_
                rotate_left
                · obtain ⟨hW0, hW1, hW2⟩ := hW; go_simp; try first | rfl | (rw [if_neg (by first | omega | (simp only [ByteArray.size_append]; first | omega | (have h1 : (ByteArray.mk #[47]).size = 1 := rfl; omega)))]; try rfl) | kernel_rfl
                try simp only [Act.put, List.setIfInBounds_toArray, List.set_cons_zero, List.set_cons_succ]
                refine wpAnyH_take (i := 13) (v := ?_) ((List.getElem?_toArray ..).trans rfl) (by kernel_rfl) (by kernel_rfl) (by kernel_rfl) (fun _ _ _ h => h) (Or.inl ⟨rfl, fun W hW => ?_⟩) hS ?_
                rotate_left
                · obtain ⟨hW0, hW1, hW2⟩ := hW; go_simp; try first | rfl | (rw [if_neg (by first | omega | (simp only [ByteArray.size_append]; first | omega | (have h1 : (ByteArray.mk #[47]).size = 1 := rfl; omega)))]; try rfl) | kernel_rfl
                try simp only [Act.put, List.setIfInBounds_toArray, List.set_cons_zero, List.set_cons_succ]
                refine wpAnyH_ready (rs := [15]) (by kernel_rfl) (by simp) (AllReadyH.cons ((List.getElem?_toArray ..).trans rfl) (fun KK hKK => ?_) AllReadyH.nil)
                have c0 := S.c 3 0 rfl rfl
                have f0 := S.f 3 0 rfl
                have c1 := S.c 3 1 rfl rfl
                have f1 := S.f 3 1 rfl
                have c2 := S.c 3 2 rfl rfl
                have f2 := S.f 3 2 rfl
                go_simp
                clear hS c0 f0 c1 f1 c2 f2
                have H := S.hset 3 0 (.bool bl) rfl rfl (by intro q n e; cases e)
                replace S := S.set 3 0 (.bool bl) rfl
                replace nA := nA.hold H
                replace nR := nR.hold H
                replace no := no.hold H
                replace nl := nl.hold H
                replace HH := HH.trans H.to32
                clear H
                have H := S.hset 3 1 (.slice pl ll Kl) rfl rfl (by intro q n e; cases e)
                replace S := S.set 3 1 (.slice pl ll Kl) rfl
                replace nA := nA.hold H
                replace nR := nR.hold H
                replace no := no.hold H
                replace nl := nl.hold H
                replace HH := HH.trans H.to32
                clear H
                have H := S.hset32 3 2 (.int .i64 el) rfl rfl (by intro n e; cases e)
                replace S := S.set 3 2 (.int .i64 el) rfl
                replace nA := nA.hold32 H
                replace nR := nR.hold32 H
                replace no := no.hold32 H
                replace nl := nl.hold32 H
                replace HH := HH.trans H
                clear H
                refine hKK.out _ _ ⟨S.c 0 0 rfl rfl, S.c 0 1 rfl rfl, S.c 0 2 rfl rfl⟩ (fun hS => ?_)
                generalize (((w24.setCell ⟨w8.heap.size, 0, none⟩ (.bool bl)).setCell ⟨w8.heap.size, 1, none⟩ (.slice pl ll Kl)).setCell ⟨w8.heap.size, 2, none⟩ (.int .i64 el)) = w25 at S nA nR no nl HH hS ⊢
                clear hKK KK
                try simp only [Act.put, List.setIfInBounds_toArray, List.set_cons_zero, List.set_cons_succ]
                refine wpAnyH_ready (rs := [16]) (by kernel_rfl) (by simp) (AllReadyH.cons ((List.getElem?_toArray ..).trans rfl) (fun KK hKK => ?_) AllReadyH.nil)
                go_simp
                refine hKK.out _ _ hS (fun hS => ?_)
                clear hKK KK
                try simp only [Act.put, List.setIfInBounds_toArray, List.set_cons_zero, List.set_cons_succ]
                refine wpAnyH_done (by kernel_rfl) ?_ _
                go_wp2_with fail
                go_meet
                case rel => exact ⟨w8.heap.size, bl, pl, ll, Kl, ml, el, rfl, rfl, S, hl, nl, dl, HH⟩
            case rest =>
              obtain ⟨g10, bl, pl, ll, Kl, ml, el, rfl, rfl, S, hl, nl, dl, HH⟩ := hcut
              obtain ⟨w26, rfl⟩ : ∃ W : World, W = wc := ⟨_, rfl⟩
              replace nA := nA.hold32 HH
              replace nR := nR.hold32 HH
              clear HH
              have c2_0 := S.c 2 0 rfl rfl
              have c2_1 := S.c 2 1 rfl rfl
              have c2_2 := S.c 2 2 rfl rfl
              have c3_0 := S.c 3 0 rfl rfl
              have c3_1 := S.c 3 1 rfl rfl
              have c3_2 := S.c 3 2 rfl rfl
              go_wp2_with fail
              clear c2_0 c2_1 c2_2 c3_0 c3_1 c3_2
              refine (S.call (dsub_any (L := 300) (H := 781) (HT.out.below S.below) ⟨bR, pR, lR, KR, mR, eR, rfl, hR, nR, dR⟩ ⟨bl, pl, ll, Kl, ml, el, rfl, hl, nl, dl⟩ (by decide) (y - dq 1 f) rfl)).mono ?_
              clear S
              rintro e w27 ⟨⟨_, rfl, bN, pN, lN, KN, mN, eN, rfl, hN, nN, dN⟩, S, H⟩
              replace nA := nA.hold H
              replace nR := nR.hold H
              replace nl := nl.hold H
              clear H
              have c2_0 := S.c 2 0 rfl rfl
              have c2_1 := S.c 2 1 rfl rfl
              have c2_2 := S.c 2 2 rfl rfl
              have c3_0 := S.c 3 0 rfl rfl
              have c3_1 := S.c 3 1 rfl rfl
              have c3_2 := S.c 3 2 rfl rfl
              have H := S.hnew 27 [.bool bN, .slice pN lN KN, .int .i64 eN]
              replace S := S.alloc 27 [.bool bN, .slice pN lN KN, .int .i64 eN] (w27.heap.size)
              try simp only [List.cons_append, List.nil_append] at S
              replace nA := nA.hold H
              replace nR := nR.hold H
              replace nl := nl.hold H
              replace nN := nN.hold H
              clear H
              clear c2_0 c2_1 c2_2 c3_0 c3_1 c3_2
              have c0_0 := S.c 0 0 rfl rfl
              have c0_1 := S.c 0 1 rfl rfl
              have c0_2 := S.c 0 2 rfl rfl
              have c4_0 := S.c 4 0 rfl rfl
              have c4_1 := S.c 4 1 rfl rfl
              have c4_2 := S.c 4 2 rfl rfl
              go_wp2_with fail
              generalize (.tuple #[.agg #[.bool bN, .slice pN lN KN, .int .i64 eN], .int .i64 0] : Value) = g2
              clear c0_0 c0_1 c0_2 c4_0 c4_1 c4_2
              refine (S.call (dless_any (L := 300) (H := 782) ⟨bN, pN, lN, KN, mN, eN, rfl, hN, nN, dN⟩ (IsD.mono ⟨bA, pA, lA, KA, mA, eA, rfl, hA, nA, dA⟩ (L := 300) (H := 780) (L' := 300) (H' := 782) (by decide) (by decide)) (by decide) true HO.out)).mono ?_
              clear S
              rintro e w28 ⟨rfl, S, H⟩
              replace nA := nA.hold H
              replace nR := nR.hold H
              replace nl := nl.hold H
              replace nN := nN.hold H
              clear H
              have c0_0 := S.c 0 0 rfl rfl
              have c0_1 := S.c 0 1 rfl rfl
              have c0_2 := S.c 0 2 rfl rfl
              have c4_0 := S.c 4 0 rfl rfl
              have c4_1 := S.c 4 1 rfl rfl
              have c4_2 := S.c 4 2 rfl rfl
              go_wp2_with fail
              exact bodyPost_ret (v := .bool true) (by simp [results, Tryd.f3, go_sem]) rfl (⟨rfl, S.below⟩)

end Go.Proofs.YtnkmcikjeicpfaaDoor
