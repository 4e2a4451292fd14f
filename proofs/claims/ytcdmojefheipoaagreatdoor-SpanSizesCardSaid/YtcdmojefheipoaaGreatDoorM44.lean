/-
  What the statement stands on.
-/
import Derived.Test.YtcdmojefheipoaaGreatDoorM24
import Derived.Test.YtcdmojefheipoaaGreatDoorM27
namespace Go.Proofs.YtcdmojefheipoaaGreatDoor
open Go.RowKit
section
variable {w W : World} {L : List (Nat × TypeId × List Value)} {b : Nat} {t : TypeId} {b1 b2 b3 b4 b5 b6 : Bool} {p1 p2 p3 p4 p5 p6 : Option Addr} {l1 l2 l3 l4 l5 l6 K1 K2 K3 K4 K5 K6 : Nat} {e1 e2 e3 e4 e5 e6 : Int} {ds1 ds2 ds3 ds4 ds5 ds6 : List Nat}
theorem spraw1 (S : St w W L) (i : Nat) (hi : L[i]? = some (b, t, [.bool b1, .slice p1 l1 K1, .int .i64 e1, .bool b2, .slice p2 l2 K2, .int .i64 e2])) (h1 : ds1.length = l1) (h2 : ds2.length = l2)
    (a1 : At .u32 W p1 K1 ds1) (d1 : Dig 4294967296 ds1) (a2 : At .u32 W p2 K2 ds2) (d2 : Dig 4294967296 ds2) :
    ∀ j, j < 1 → SpAt W b j ([SpR.mk b1 b2 p1 p2 ds1 ds2 K1 K2 e1 e2].getD j (SpR.mk b1 b2 p1 p2 ds1 ds2 K1 K2 e1 e2)) := by
  subst h1 h2
  intro j hj
  match j, hj with
  | 0, _ => exact ⟨⟨S.c i 0 hi rfl, S.c i 1 hi rfl, S.c i 2 hi rfl, S.c i 3 hi rfl, S.c i 4 hi rfl, S.c i 5 hi rfl⟩, a1, d1, a2, d2⟩
end
theorem abs_num (x : Rat) : (x.abs).num = x.num.natAbs ∧ (x.abs).den = x.den := by
  unfold Rat.abs
  split
  · rename_i h
    have := Rat.num_nonneg.2 h
    exact ⟨by omega, rfl⟩
  · rename_i h
    have : ¬ 0 ≤ x.num := fun e => h (Rat.num_nonneg.1 e)
    exact ⟨by rw [Rat.neg_num]; omega, rfl⟩
set_option maxRecDepth 100000 in
set_option maxHeartbeats 4000000 in
theorem rabs_any {va : Value} {x : Rat} {w : World} (ha : IsRat w va x) (hx : x.num.natAbs < maxN ∧ x.den < maxN) :
    Calls Tryz.prog 40 #[va] w fun e w' => (∃ u, e = .returned u ∧ IsRat w' u x.abs) ∧ Below w.heap.size w w' := by
  obtain ⟨b1, p1, l1, K1, q1, j1, J1, rfl, hb1, n1, d1⟩ := ha
  have HX := Lib.hid hx
  have HQ := Lib.hid (abs_num x)
  clear hx
  have S := ((St.start w).alloc 34 [.bool b1, .slice p1 l1 K1, .slice q1 j1 J1] (w.heap.size)).alloc 34 [.bool false, .slice none 0 0, .slice none 0 0] (w.heap.size + 1)
  try simp only [List.cons_append, List.nil_append] at S
  replace n1 := n1.hold S.hold; replace d1 := d1.hold S.hold
  obtain ⟨c0_0, c0_1, c0_2⟩ := S.c3 0 rfl; obtain ⟨c1_0, c1_1, c1_2⟩ := S.c3 1 rfl
  go_enter Tryz.func40, Tryz.ntmps40
  go_upto_region 1 with fail
  clear c0_0 c0_1 c0_2 c1_0 c1_1 c1_2
  generalize ((w.alloc (.cells #[.bool b1, .slice p1 l1 K1, .slice q1 j1 J1] 34)).alloc (.cells #[.bool false, .slice none 0 0, .slice none 0 0] 34)) = w1 at S n1 d1 ⊢
  have HH := Hold.drew w1
  replace n1 := n1.hold HH; replace d1 := d1.hold HH
  replace S := S.drew
  refine wp_region_held_drew (S := fun W => W.cell? ⟨w.heap.size, 0, none⟩ = some (.bool b1) ∧ W.cell? ⟨w.heap.size, 1, none⟩ = some (.slice p1 l1 K1) ∧ W.cell? ⟨w.heap.size, 2, none⟩ = some (.slice q1 j1 J1)) (by kernel_rfl) (S.c3 0 rfl) (fun hS => ?_)
  generalize w1.drew = w2 at S n1 d1 HH hS ⊢
  refine tk 0 hS ?_
  refine tk 1 hS ?_
  refine tk 3 hS ?_
  refine tk 4 hS ?_
  refine rd 2 fun KK hKK => ?_
  go_simp; clear hS
  refine (S.call (wabs_any ⟨_, _, _, by rw [hb1.out], n1⟩ HX.out.1 (x.num.natAbs : Int) rfl)).mono ?_
  clear S
  rintro e w3 ⟨⟨_, rfl, pa, la, Ka, rfl, na⟩, S, H⟩
  replace n1 := n1.hold H; replace d1 := d1.hold H; replace HH := HH.trans H; clear H
  go_wp2_with fail
  refine ho hKK (S.c3 0 rfl) fun hS => ?_
  clear hKK KK
  refine rd 5 fun KK hKK => ?_
  go_simp; clear hS
  refine (S.call (clone_any d1 HX.out.2)).mono ?_
  clear S
  rintro e w4 ⟨⟨_, rfl, nc⟩, S, H⟩
  refine iv3 H n1 d1 na ?_; clear n1 d1 na; intro n1 d1 na; replace HH := HH.trans H; clear H
  obtain ⟨pc, lc, Kc, rfl⟩ := nc.form
  go_wp2_with fail
  refine ho hKK (S.c3 0 rfl) fun hS => ?_
  clear hKK KK
  refine tk 6 hS ?_
  refine rd 7 fun KK hKK => ?_
  obtain ⟨c0, c1, c2⟩ := S.c3 1 rfl; obtain ⟨f0, f1, f2⟩ := S.f3 1 rfl
  go_simp; clear hS c0 f0 c1 f1 c2 f2
  have HP := S.putq 1 (.bool (negB (x.num.natAbs : Int))) (.slice pa la Ka) (.slice pc lc Kc) rfl rfl; have H := HP.2; replace S := HP.1; clear HP
  refine iv4 H n1 d1 na nc ?_; clear n1 d1 na nc; intro n1 d1 na nc; replace HH := HH.trans H; clear H
  refine ho hKK (S.c3 0 rfl) fun hS => ?_
  generalize (((w4.setCell ⟨w.heap.size + 1, 0, none⟩ (.bool (negB (x.num.natAbs : Int)))).setCell ⟨w.heap.size + 1, 1, none⟩ (.slice pa la Ka)).setCell ⟨w.heap.size + 1, 2, none⟩ (.slice pc lc Kc)) = w5 at S n1 d1 na nc HH hS ⊢
  clear hKK KK
  refine wpAnyH_done (by kernel_rfl) ?_ _
  clear hS HH; obtain ⟨c0_0, c0_1, c0_2⟩ := S.c3 0 rfl; obtain ⟨c1_0, c1_1, c1_2⟩ := S.c3 1 rfl; go_wp2_with fail; obtain ⟨d1_0, d1_1, d1_2⟩ := S.c3 1 rfl
  exact bodyPost_ret (v := .agg #[.bool (negB (x.num.natAbs : Int)), .slice pa la Ka, .slice pc lc Kc]) (by simp [results, Tryz.f40, go_sem, d1_0, d1_1, d1_2]) rfl (⟨⟨_, rfl, _, pa, la, Ka, pc, lc, Kc, rfl, by rw [HQ.out.1]; rfl, by rw [HQ.out.1]; exact na, by rw [HQ.out.2]; exact nc⟩, S.below⟩)
end Go.Proofs.YtcdmojefheipoaaGreatDoor
