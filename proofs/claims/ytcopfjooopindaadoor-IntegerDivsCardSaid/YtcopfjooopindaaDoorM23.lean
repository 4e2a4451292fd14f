/-
  girdlelaw03.of: a whole number's sign, and its size to the base 256. girdlelaw03.is. The calls of package whole, their answers under names of one's own. girdlelaw03.counts: some small numbers. The laws of girdlelaw03: what fit tells of each number.
-/
import Derived.Test.YtcopfjooopindaaDoorM13
import Derived.Test.YtcopfjooopindaaDoorM14
import Derived.Test.YtcopfjooopindaaDoorM19
import Derived.Test.YtcopfjooopindaaDoorM21
import Derived.Test.YtcopfjooopindaaDoorM22
import Derived.Deep.RegionWith
import Derived.Deep.RegionHeld3

namespace Go.Proofs.YtcopfjooopindaaDoor
open Go.RowKit

/-- The struct value v is the whole number z, its size to the base 256. -/
def IsSig (w : World) (v : Value) (z : Int) : Prop := ∃ b p l K n, v = .agg #[.bool b, .slice p l K] ∧ Hid (z = if b then -((n : Nat) : Int) else ((n : Nat) : Int)) ∧ IsRef w (.slice p l K) n
theorem IsSig.below {B : Nat} {w w' : World} {v : Value} {z : Int} (hb : Below B w w') (hB : w.heap.size ≤ B) : IsSig w v z → IsSig w' v z
  | ⟨b, p, l, K, n, e, hs, h⟩ => ⟨b, p, l, K, n, e, hs, h.below hb hB⟩
theorem negB_val (z : Int) : z = if negB z then -((z.natAbs : Nat) : Int) else ((z.natAbs : Nat) : Int) := by
  by_cases h : z < 0
  · rw [negB_pos h, if_pos rfl]; omega
  · rw [negB_neg h, if_neg (by decide)]; omega
theorem IsRef.form {w : World} {v : Value} {n : Nat} (h : IsRef w v n) : ∃ p l K, v = .slice p l K := by
  obtain ⟨ds, ⟨p, K, rfl, _⟩, _⟩ := h
  exact ⟨p, _, K, rfl⟩
theorem IsRef.hold {w w' : World} {v : Value} {n : Nat} (h : Hold w w') : IsRef w v n → IsRef w' v n
  | ⟨ds, a, c⟩ => ⟨ds, a.hold h, c⟩
theorem IsSig.hold {w w' : World} {v : Value} {z : Int} (h : Hold w w') : IsSig w v z → IsSig w' v z
  | ⟨b, p, l, K, n, e, hs, r⟩ => ⟨b, p, l, K, n, e, hs, r.hold h⟩
theorem sigCmp {va vb : Value} {m n : Nat} {w : World} (ha : IsRef w va m) (hb : IsRef w vb n) (hm : m < maxN) (hn : n < maxN) {c : Int} (hc : cmpI m n = c) :
    Calls Tryd.prog 43 #[va, vb] w fun e w' => e = .returned (.int .i64 c) ∧ Below w.heap.size w w' :=
  (refCmp_ref ha hb (by omega) (by omega)).mono fun e w' h => ⟨by rw [← hc]; exact h.1, h.2 ▸ Below.refl _ _⟩

set_option maxRecDepth 100000 in
set_option maxHeartbeats 2000000 in
theorem sigOf_any {va : Value} {x : Int} {w : World} (ha : IsInt w va x) (hx : x.natAbs < maxN) :
    Calls Tryd.prog 11 #[va] w fun e w' => (∃ u, e = .returned u ∧ IsSig w' u x) ∧ Below w.heap.size w w' := by
  obtain ⟨p, l, K, rfl, n1⟩ := ha
  obtain ⟨b, hb⟩ : ∃ b, negB x = b := ⟨_, rfl⟩
  rw [hb]
  have HD := Lib.hid (And.intro hb hx)
  clear hb hx
  have S := ((St.start w).alloc 25 [.bool b, .slice p l K] (w.heap.size)).alloc 30 [.bool false, .slice none 0 0] (w.heap.size + 1)
  replace n1 := n1.hold S.hold
  have c0_0 := S.c 0 0 rfl rfl
  have c0_1 := S.c 0 1 rfl rfl
  have c1_0 := S.c 1 0 rfl rfl
  have c1_1 := S.c 1 1 rfl rfl
  go_enter Tryd.func11, Tryd.ntmps11
  go_upto_region 1 with fail
  clear c0_0 c0_1 c1_0 c1_1
  replace n1 := n1.hold (Hold.drew _)
  replace S := S.drew
  have tok1 := Lib.hid trivial
  go_region_held3 (fun W => W.cell? ⟨w.heap.size, 0, none⟩ = some (.bool b) ∧ W.cell? ⟨w.heap.size, 1, none⟩ = some (.slice p l K))
    (first | exact ⟨S.c 0 0 rfl rfl, S.c 0 1 rfl rfl⟩ | exact ⟨((S.set 1 0 (.bool b) rfl).set 1 1 (.slice p' l' K') rfl).c 0 0 rfl rfl, ((S.set 1 0 (.bool b) rfl).set 1 1 (.slice p' l' K') rfl).c 0 1 rfl rfl⟩)
    (first
      | (clear tok1; go_at_call 36; refine (S.call (refOf_any n1 HD.out.2)).mono ?_; clear S; rintro e w1 ⟨⟨v, rfl, nv⟩, S, H⟩; replace n1 := n1.hold H; clear H; obtain ⟨p', l', K', rfl⟩ := nv.form; have g1_0 := S.c 1 0 rfl rfl; have h1_0 := S.f 1 0 rfl; have g1_1 := S.c 1 1 rfl rfl; have h1_1 := S.f 1 1 rfl))
  have H := S.hset 1 0 (.bool b) rfl rfl (by intro q n e; cases e)
  replace S := S.set 1 0 (.bool b) rfl
  replace n1 := n1.hold H
  replace nv := nv.hold H
  clear H
  have H := S.hset 1 1 (.slice p' l' K') rfl rfl (by intro q n e; cases e)
  replace S := S.set 1 1 (.slice p' l' K') rfl
  replace n1 := n1.hold H
  replace nv := nv.hold H
  clear H
  clear g1_0 h1_0 g1_1 h1_1
  go_wp2_with fail
  have d1_0 := S.c 1 0 rfl rfl
  have d1_1 := S.c 1 1 rfl rfl
  exact bodyPost_ret (v := .agg #[.bool b, .slice p' l' K']) (by simp [results, Tryd.f11, go_sem, d1_0, d1_1]) rfl (⟨⟨_, rfl, b, p', l', K', _, rfl, by rw [← HD.out.1]; exact negB_val x, nv⟩, S.below⟩)

set_option maxRecDepth 100000 in
set_option maxHeartbeats 2000000 in
theorem sigAdd_same (b : Bool) {p1 p2 : Option Addr} {l1 l2 K1 K2 m n : Nat} {w : World} (n1 : IsRef w (.slice p1 l1 K1) m) (n2 : IsRef w (.slice p2 l2 K2) n) (hm : m < maxN) (hn : n < maxN) (z : Int) (hz : z = if b then -((m + n : Nat) : Int) else ((m + n : Nat) : Int)) :
    Calls Tryd.prog 16 #[.agg #[.bool b, .slice p1 l1 K1], .agg #[.bool b, .slice p2 l2 K2]] w fun e w' => (∃ u, e = .returned u ∧ IsSig w' u z) ∧ Below w.heap.size w w' := by
  have HD := Lib.hid (And.intro hm (And.intro hn hz))
  have hbb : (b == b) = true := by cases b <;> rfl
  obtain ⟨c, hc⟩ : ∃ c, cmpI m n = c := ⟨_, rfl⟩
  have HC := Lib.hid hc
  clear hm hn hc hz
  have S := (((St.start w).alloc 30 [.bool b, .slice p1 l1 K1] (w.heap.size)).alloc 30 [.bool b, .slice p2 l2 K2] (w.heap.size + 1)).alloc 30 [.bool false, .slice none 0 0] (w.heap.size + 1 + 1)
  replace n1 := n1.hold S.hold
  replace n2 := n2.hold S.hold
  have c0_0 := S.c 0 0 rfl rfl
  have c0_1 := S.c 0 1 rfl rfl
  have c1_0 := S.c 1 0 rfl rfl
  have c1_1 := S.c 1 1 rfl rfl
  have c2_0 := S.c 2 0 rfl rfl
  have c2_1 := S.c 2 1 rfl rfl
  go_enter Tryd.func16, Tryd.ntmps16
  go_wp2_with fail
  clear c0_0 c0_1 c1_0 c1_1 c2_0 c2_1
  refine (S.call (sigCmp n1 n2 HD.out.1 HD.out.2.1 HC.out)).mono ?_
  clear S
  rintro e w1 ⟨rfl, S, H⟩
  replace n1 := n1.hold H
  replace n2 := n2.hold H
  clear H
  have c0_0 := S.c 0 0 rfl rfl
  have c0_1 := S.c 0 1 rfl rfl
  have c1_0 := S.c 1 0 rfl rfl
  have c1_1 := S.c 1 1 rfl rfl
  have c2_0 := S.c 2 0 rfl rfl
  have c2_1 := S.c 2 1 rfl rfl
  go_upto_region 3 with fail
  clear c0_0 c0_1 c1_0 c1_1 c2_0 c2_1
  replace n1 := n1.hold (Hold.drew _)
  replace n2 := n2.hold (Hold.drew _)
  replace S := S.drew
  have tok1 := Lib.hid trivial
  go_region_held3 (fun W => W.cell? ⟨w.heap.size, 0, none⟩ = some (.bool b) ∧ W.cell? ⟨w.heap.size, 1, none⟩ = some (.slice p1 l1 K1) ∧ W.cell? ⟨w.heap.size + 1, 1, none⟩ = some (.slice p2 l2 K2))
    (first | exact ⟨S.c 0 0 rfl rfl, S.c 0 1 rfl rfl, S.c 1 1 rfl rfl⟩ | exact ⟨((S.set 2 0 (.bool b) rfl).set 2 1 (.slice p' l' K') rfl).c 0 0 rfl rfl, ((S.set 2 0 (.bool b) rfl).set 2 1 (.slice p' l' K') rfl).c 0 1 rfl rfl, ((S.set 2 0 (.bool b) rfl).set 2 1 (.slice p' l' K') rfl).c 1 1 rfl rfl⟩)
    (first
      | (clear tok1; go_at_call 44; refine (S.call (refAdd_any n1 n2 HD.out.1 HD.out.2.1)).mono ?_; clear S; rintro e w2 ⟨⟨v, rfl, nv⟩, S, H⟩; replace n1 := n1.hold H; replace n2 := n2.hold H; clear H; obtain ⟨p', l', K', rfl⟩ := nv.form; have g2_0 := S.c 2 0 rfl rfl; have h2_0 := S.f 2 0 rfl; have g2_1 := S.c 2 1 rfl rfl; have h2_1 := S.f 2 1 rfl))
  have H := S.hset 2 0 (.bool b) rfl rfl (by intro q n e; cases e)
  replace S := S.set 2 0 (.bool b) rfl
  replace n1 := n1.hold H
  replace n2 := n2.hold H
  replace nv := nv.hold H
  clear H
  have H := S.hset 2 1 (.slice p' l' K') rfl rfl (by intro q n e; cases e)
  replace S := S.set 2 1 (.slice p' l' K') rfl
  replace n1 := n1.hold H
  replace n2 := n2.hold H
  replace nv := nv.hold H
  clear H
  clear g2_0 h2_0 g2_1 h2_1
  go_wp2_with fail
  have d2_0 := S.c 2 0 rfl rfl
  have d2_1 := S.c 2 1 rfl rfl
  exact bodyPost_ret (v := .agg #[.bool b, .slice p' l' K']) (by simp [results, Tryd.f16, go_sem, d2_0, d2_1]) rfl (⟨⟨_, rfl, b, p', l', K', _, rfl, HD.out.2.2, nv⟩, S.below⟩)

set_option maxRecDepth 100000 in
set_option maxHeartbeats 2000000 in
theorem sigAdd_zero (b d : Bool) (hne : (b == d) = false) {p1 p2 : Option Addr} {l1 l2 K1 K2 m n : Nat} {w : World} (n1 : IsRef w (.slice p1 l1 K1) m) (n2 : IsRef w (.slice p2 l2 K2) n) (hm : m < maxN) (hn : n < maxN) (h : m = n) (z : Int) (hz : z = 0) :
    Calls Tryd.prog 16 #[.agg #[.bool b, .slice p1 l1 K1], .agg #[.bool d, .slice p2 l2 K2]] w fun e w' => (∃ u, e = .returned u ∧ IsSig w' u z) ∧ Below w.heap.size w w' := by
  have HD := Lib.hid (And.intro hm (And.intro hn (And.intro (show cmpI m n = 0 by unfold cmpI; rw [if_neg (by omega), if_neg (by omega)]) hz)))
  clear hm hn hz h
  have S := (((St.start w).alloc 30 [.bool b, .slice p1 l1 K1] (w.heap.size)).alloc 30 [.bool d, .slice p2 l2 K2] (w.heap.size + 1)).alloc 30 [.bool false, .slice none 0 0] (w.heap.size + 1 + 1)
  replace n1 := n1.hold S.hold
  replace n2 := n2.hold S.hold
  have c0_0 := S.c 0 0 rfl rfl
  have c0_1 := S.c 0 1 rfl rfl
  have c1_0 := S.c 1 0 rfl rfl
  have c1_1 := S.c 1 1 rfl rfl
  have c2_0 := S.c 2 0 rfl rfl
  have c2_1 := S.c 2 1 rfl rfl
  go_enter Tryd.func16, Tryd.ntmps16
  go_wp2_with fail
  clear c0_0 c0_1 c1_0 c1_1 c2_0 c2_1
  refine (S.call (sigCmp n1 n2 HD.out.1 HD.out.2.1 HD.out.2.2.1)).mono ?_
  clear S
  rintro e w1 ⟨rfl, S, H⟩
  replace n1 := n1.hold H
  replace n2 := n2.hold H
  clear H
  have c0_0 := S.c 0 0 rfl rfl
  have c0_1 := S.c 0 1 rfl rfl
  have c1_0 := S.c 1 0 rfl rfl
  have c1_1 := S.c 1 1 rfl rfl
  have c2_0 := S.c 2 0 rfl rfl
  have c2_1 := S.c 2 1 rfl rfl
  have f2_0 := S.f 2 0 rfl
  have H := S.hset 2 0 (.bool false) rfl rfl (by intro q n e; cases e)
  replace S := S.set 2 0 (.bool false) rfl
  replace n1 := n1.hold H
  replace n2 := n2.hold H
  clear H
  have f2_1 := S.f 2 1 rfl
  have H := S.hset 2 1 (.slice none 0 0) rfl rfl (by intro q n e; cases e)
  replace S := S.set 2 1 (.slice none 0 0) rfl
  replace n1 := n1.hold H
  replace n2 := n2.hold H
  clear H
  go_wp2_with fail
  have d2_0 := S.c 2 0 rfl rfl
  have d2_1 := S.c 2 1 rfl rfl
  exact bodyPost_ret (v := .agg #[.bool false, .slice none 0 0]) (by simp [results, Tryd.f16, go_sem, d2_0, d2_1]) rfl (⟨⟨_, rfl, false, _, _, _, 0, rfl, HD.out.2.2.2, ⟨[], .nil _ _, Can.nil _, rfl⟩⟩, S.below⟩)

set_option maxRecDepth 100000 in
set_option maxHeartbeats 2000000 in
theorem sigAdd_more (b d : Bool) (hne : (b == d) = false) {p1 p2 : Option Addr} {l1 l2 K1 K2 m n : Nat} {w : World} (n1 : IsRef w (.slice p1 l1 K1) m) (n2 : IsRef w (.slice p2 l2 K2) n) (hm : m < maxN) (hn : n < maxN) (h : n < m) (z : Int) (hz : z = if b then -((m - n : Nat) : Int) else ((m - n : Nat) : Int)) :
    Calls Tryd.prog 16 #[.agg #[.bool b, .slice p1 l1 K1], .agg #[.bool d, .slice p2 l2 K2]] w fun e w' => (∃ u, e = .returned u ∧ IsSig w' u z) ∧ Below w.heap.size w w' := by
  have HD := Lib.hid (And.intro hm (And.intro hn (And.intro (show cmpI m n = 1 by unfold cmpI; rw [if_neg (by omega), if_pos (by omega)]) (And.intro hz (Nat.le_of_lt h)))))
  clear hm hn hz h
  have S := (((St.start w).alloc 30 [.bool b, .slice p1 l1 K1] (w.heap.size)).alloc 30 [.bool d, .slice p2 l2 K2] (w.heap.size + 1)).alloc 30 [.bool false, .slice none 0 0] (w.heap.size + 1 + 1)
  replace n1 := n1.hold S.hold
  replace n2 := n2.hold S.hold
  have c0_0 := S.c 0 0 rfl rfl
  have c0_1 := S.c 0 1 rfl rfl
  have c1_0 := S.c 1 0 rfl rfl
  have c1_1 := S.c 1 1 rfl rfl
  have c2_0 := S.c 2 0 rfl rfl
  have c2_1 := S.c 2 1 rfl rfl
  go_enter Tryd.func16, Tryd.ntmps16
  go_wp2_with fail
  clear c0_0 c0_1 c1_0 c1_1 c2_0 c2_1
  refine (S.call (sigCmp n1 n2 HD.out.1 HD.out.2.1 HD.out.2.2.1)).mono ?_
  clear S
  rintro e w1 ⟨rfl, S, H⟩
  replace n1 := n1.hold H
  replace n2 := n2.hold H
  clear H
  have c0_0 := S.c 0 0 rfl rfl
  have c0_1 := S.c 0 1 rfl rfl
  have c1_0 := S.c 1 0 rfl rfl
  have c1_1 := S.c 1 1 rfl rfl
  have c2_0 := S.c 2 0 rfl rfl
  have c2_1 := S.c 2 1 rfl rfl
  go_upto_region 7 with fail
  clear c0_0 c0_1 c1_0 c1_1 c2_0 c2_1
  replace n1 := n1.hold (Hold.drew _)
  replace n2 := n2.hold (Hold.drew _)
  replace S := S.drew
  have tok1 := Lib.hid trivial
  go_region_held3 (fun W => W.cell? ⟨w.heap.size, 0, none⟩ = some (.bool b) ∧ W.cell? ⟨w.heap.size, 1, none⟩ = some (.slice p1 l1 K1) ∧ W.cell? ⟨w.heap.size + 1, 1, none⟩ = some (.slice p2 l2 K2))
    (first | exact ⟨S.c 0 0 rfl rfl, S.c 0 1 rfl rfl, S.c 1 1 rfl rfl⟩ | exact ⟨((S.set 2 0 (.bool b) rfl).set 2 1 (.slice p' l' K') rfl).c 0 0 rfl rfl, ((S.set 2 0 (.bool b) rfl).set 2 1 (.slice p' l' K') rfl).c 0 1 rfl rfl, ((S.set 2 0 (.bool b) rfl).set 2 1 (.slice p' l' K') rfl).c 1 1 rfl rfl⟩)
    (first
      | (clear tok1; go_at_call 45; refine (S.call (refSub_any n1 n2 HD.out.1 HD.out.2.2.2.2)).mono ?_; clear S; rintro e w2 ⟨⟨v, rfl, nv⟩, S, H⟩; replace n1 := n1.hold H; replace n2 := n2.hold H; clear H; obtain ⟨p', l', K', rfl⟩ := nv.form; have g2_0 := S.c 2 0 rfl rfl; have h2_0 := S.f 2 0 rfl; have g2_1 := S.c 2 1 rfl rfl; have h2_1 := S.f 2 1 rfl))
  have H := S.hset 2 0 (.bool b) rfl rfl (by intro q n e; cases e)
  replace S := S.set 2 0 (.bool b) rfl
  replace n1 := n1.hold H
  replace n2 := n2.hold H
  replace nv := nv.hold H
  clear H
  have H := S.hset 2 1 (.slice p' l' K') rfl rfl (by intro q n e; cases e)
  replace S := S.set 2 1 (.slice p' l' K') rfl
  replace n1 := n1.hold H
  replace n2 := n2.hold H
  replace nv := nv.hold H
  clear H
  clear g2_0 h2_0 g2_1 h2_1
  go_wp2_with fail
  have d2_0 := S.c 2 0 rfl rfl
  have d2_1 := S.c 2 1 rfl rfl
  exact bodyPost_ret (v := .agg #[.bool b, .slice p' l' K']) (by simp [results, Tryd.f16, go_sem, d2_0, d2_1]) rfl (⟨⟨_, rfl, b, p', l', K', _, rfl, HD.out.2.2.2.1, nv⟩, S.below⟩)

set_option maxRecDepth 100000 in
set_option maxHeartbeats 2000000 in
theorem sigAdd_less (b d : Bool) (hne : (b == d) = false) {p1 p2 : Option Addr} {l1 l2 K1 K2 m n : Nat} {w : World} (n1 : IsRef w (.slice p1 l1 K1) m) (n2 : IsRef w (.slice p2 l2 K2) n) (hm : m < maxN) (hn : n < maxN) (h : m < n) (z : Int) (hz : z = if d then -((n - m : Nat) : Int) else ((n - m : Nat) : Int)) :
    Calls Tryd.prog 16 #[.agg #[.bool b, .slice p1 l1 K1], .agg #[.bool d, .slice p2 l2 K2]] w fun e w' => (∃ u, e = .returned u ∧ IsSig w' u z) ∧ Below w.heap.size w w' := by
  have HD := Lib.hid (And.intro hm (And.intro hn (And.intro (show cmpI m n = -1 by unfold cmpI; rw [if_pos (by omega)]) (And.intro hz (Nat.le_of_lt h)))))
  clear hm hn hz h
  have S := (((St.start w).alloc 30 [.bool b, .slice p1 l1 K1] (w.heap.size)).alloc 30 [.bool d, .slice p2 l2 K2] (w.heap.size + 1)).alloc 30 [.bool false, .slice none 0 0] (w.heap.size + 1 + 1)
  replace n1 := n1.hold S.hold
  replace n2 := n2.hold S.hold
  have c0_0 := S.c 0 0 rfl rfl
  have c0_1 := S.c 0 1 rfl rfl
  have c1_0 := S.c 1 0 rfl rfl
  have c1_1 := S.c 1 1 rfl rfl
  have c2_0 := S.c 2 0 rfl rfl
  have c2_1 := S.c 2 1 rfl rfl
  go_enter Tryd.func16, Tryd.ntmps16
  go_wp2_with fail
  clear c0_0 c0_1 c1_0 c1_1 c2_0 c2_1
  refine (S.call (sigCmp n1 n2 HD.out.1 HD.out.2.1 HD.out.2.2.1)).mono ?_
  clear S
  rintro e w1 ⟨rfl, S, H⟩
  replace n1 := n1.hold H
  replace n2 := n2.hold H
  clear H
  have c0_0 := S.c 0 0 rfl rfl
  have c0_1 := S.c 0 1 rfl rfl
  have c1_0 := S.c 1 0 rfl rfl
  have c1_1 := S.c 1 1 rfl rfl
  have c2_0 := S.c 2 0 rfl rfl
  have c2_1 := S.c 2 1 rfl rfl
  go_upto_region 8 with fail
  clear c0_0 c0_1 c1_0 c1_1 c2_0 c2_1
  replace n1 := n1.hold (Hold.drew _)
  replace n2 := n2.hold (Hold.drew _)
  replace S := S.drew
  have tok1 := Lib.hid trivial
  go_region_held3 (fun W => W.cell? ⟨w.heap.size + 1, 0, none⟩ = some (.bool d) ∧ W.cell? ⟨w.heap.size, 1, none⟩ = some (.slice p1 l1 K1) ∧ W.cell? ⟨w.heap.size + 1, 1, none⟩ = some (.slice p2 l2 K2))
    (first | exact ⟨S.c 1 0 rfl rfl, S.c 0 1 rfl rfl, S.c 1 1 rfl rfl⟩ | exact ⟨((S.set 2 0 (.bool d) rfl).set 2 1 (.slice p' l' K') rfl).c 1 0 rfl rfl, ((S.set 2 0 (.bool d) rfl).set 2 1 (.slice p' l' K') rfl).c 0 1 rfl rfl, ((S.set 2 0 (.bool d) rfl).set 2 1 (.slice p' l' K') rfl).c 1 1 rfl rfl⟩)
    (first
      | (clear tok1; go_at_call 45; refine (S.call (refSub_any n2 n1 HD.out.2.1 HD.out.2.2.2.2)).mono ?_; clear S; rintro e w2 ⟨⟨v, rfl, nv⟩, S, H⟩; replace n1 := n1.hold H; replace n2 := n2.hold H; clear H; obtain ⟨p', l', K', rfl⟩ := nv.form; have g2_0 := S.c 2 0 rfl rfl; have h2_0 := S.f 2 0 rfl; have g2_1 := S.c 2 1 rfl rfl; have h2_1 := S.f 2 1 rfl))
  have H := S.hset 2 0 (.bool d) rfl rfl (by intro q n e; cases e)
  replace S := S.set 2 0 (.bool d) rfl
  replace n1 := n1.hold H
  replace n2 := n2.hold H
  replace nv := nv.hold H
  clear H
  have H := S.hset 2 1 (.slice p' l' K') rfl rfl (by intro q n e; cases e)
  replace S := S.set 2 1 (.slice p' l' K') rfl
  replace n1 := n1.hold H
  replace n2 := n2.hold H
  replace nv := nv.hold H
  clear H
  clear g2_0 h2_0 g2_1 h2_1
  go_wp2_with fail
  have d2_0 := S.c 2 0 rfl rfl
  have d2_1 := S.c 2 1 rfl rfl
  exact bodyPost_ret (v := .agg #[.bool d, .slice p' l' K']) (by simp [results, Tryd.f16, go_sem, d2_0, d2_1]) rfl (⟨⟨_, rfl, d, p', l', K', _, rfl, HD.out.2.2.2.1, nv⟩, S.below⟩)

theorem sigAdd_any {va vb : Value} {x y : Int} {w : World} (ha : IsSig w va x) (hb : IsSig w vb y) (hx : x.natAbs < maxN) (hy : y.natAbs < maxN) :
    Calls Tryd.prog 16 #[va, vb] w fun e w' => (∃ u, e = .returned u ∧ IsSig w' u (x + y)) ∧ Below w.heap.size w w' := by
  obtain ⟨b, p1, l1, K1, m, rfl, h1, n1⟩ := ha
  obtain ⟨d, p2, l2, K2, n, rfl, h2, n2⟩ := hb
  have e1 := h1.out
  have e2 := h2.out
  have hm : m < maxN := by cases b <;> simp at e1 <;> omega
  have hn : n < maxN := by cases d <;> simp at e2 <;> omega
  by_cases hbd : b = d
  · subst hbd
    exact sigAdd_same b n1 n2 hm hn _ (by rw [e1, e2]; cases b <;> simp <;> omega)
  · have hne : (b == d) = false := by simpa using hbd
    rcases Nat.lt_trichotomy m n with h | h | h
    · exact sigAdd_less b d hne n1 n2 hm hn h _ (by rw [e1, e2]; cases b <;> cases d <;> simp at hbd ⊢ <;> omega)
    · exact sigAdd_zero b d hne n1 n2 hm hn h _ (by rw [e1, e2]; cases b <;> cases d <;> simp at hbd ⊢ <;> omega)
    · exact sigAdd_more b d hne n1 n2 hm hn h _ (by rw [e1, e2]; cases b <;> cases d <;> simp at hbd ⊢ <;> omega)

end Go.Proofs.YtcopfjooopindaaDoor

namespace Go.Proofs.YtcopfjooopindaaDoor
open Go.RowKit

theorem equalU_same {va vb : Value} {m : Nat} {w : World} (ha : IsNat w va m) (hb : IsNat w vb m) (hm : m < maxN) :
    Calls Tryd.prog 41 #[va, vb] w fun e w' => e = .returned (.bool true) ∧ Below w.heap.size w w' := by
  obtain ⟨ds, ⟨p1, K1, rfl, at1⟩, c1, v1⟩ := ha
  obtain ⟨es, ⟨p2, K2, rfl, at2⟩, c2, v2⟩ := hb
  have hl : ds.length ≤ 512 := c1.len_max.2 (by omega)
  have h1 := equal_u32 p1 p2 K1 K2 ds es w at1 at2 (by omega)
  rwa [decide_eq_true (Can.uniq (by decide) c1 c2 (by rw [v1, v2]))] at h1
theorem IsRef.len {w : World} {p : Option Addr} {l K n : Nat} (h : IsRef w (.slice p l K) n) : (n = 0 ↔ l = 0) := by
  obtain ⟨ds, ⟨p', K', e, _⟩, hc, hv⟩ := h
  have hl : l = ds.length := by cases e; rfl
  rw [hl]
  constructor
  · intro h0
    rw [hc.eq_nil (by decide) (by rw [hv]; exact h0)]
    rfl
  · intro h0
    rw [← hv, List.eq_nil_of_length_eq_zero h0]
    rfl

set_option maxRecDepth 100000 in
set_option maxHeartbeats 4000000 in
theorem sigIs_any {va vd : Value} {x : Int} {w : World} (ha : IsInt w va x) (hd : IsSig w vd x) (hx : x.natAbs < maxN) :
    Calls Tryd.prog 15 #[va, vd] w fun e w' => e = .returned (.bool true) ∧ Below w.heap.size w w' := by
  obtain ⟨p1, l1, K1, rfl, n1⟩ := ha
  obtain ⟨b, p, l, K, n, rfl, hz, nd⟩ := hd
  have hz1 := hz.out
  have hn : x.natAbs = n := by cases b <;> simp at hz1 <;> omega
  obtain ⟨c, hc⟩ : ∃ c, negB x = c := ⟨_, rfl⟩
  rw [hn] at n1
  rw [hc]
  have HD := Lib.hid (And.intro (hn ▸ hx : n < maxN) (And.intro hc (And.intro hx hn)))
  have hlen := nd.len
  cases b with
  | false =>
    obtain rfl : c = false := by rw [← hc]; simp at hz1; exact negB_neg (by omega)
    clear hz hz1 hn hc hx hlen
    have S := ((St.start w).alloc 25 [.bool false, .slice p1 l1 K1] (w.heap.size)).alloc 30 [.bool false, .slice p l K] (w.heap.size + 1)
    replace n1 := n1.hold S.hold
    replace nd := nd.hold S.hold
    have c0_0 := S.c 0 0 rfl rfl
    have c0_1 := S.c 0 1 rfl rfl
    have c1_0 := S.c 1 0 rfl rfl
    have c1_1 := S.c 1 1 rfl rfl
    go_enter Tryd.func15, Tryd.ntmps15
    go_upto_region 1 with fail
    clear c0_0 c0_1 c1_0 c1_1
    replace n1 := n1.hold (Hold.drew _)
    replace nd := nd.hold (Hold.drew _)
    replace S := S.drew
    refine wp_region_held_drew (S := fun W => W.cell? ⟨w.heap.size, 0, none⟩ = some (.bool false) ∧ W.cell? ⟨w.heap.size, 1, none⟩ = some (.slice p1 l1 K1) ∧ W.cell? ⟨w.heap.size + 1, 0, none⟩ = some (.bool false) ∧ W.cell? ⟨w.heap.size + 1, 1, none⟩ = some (.slice p l K)) (by kernel_rfl) ⟨S.c 0 0 rfl rfl, S.c 0 1 rfl rfl, S.c 1 0 rfl rfl, S.c 1 1 rfl rfl⟩ (fun hS => ?_)
    refine wpAnyH_take (i := 0) (v := ?_) ((List.getElem?_toArray ..).trans rfl) (by kernel_rfl) (by kernel_rfl) (by kernel_rfl) (fun _ _ _ h => h) (Or.inl ⟨rfl, fun W hW => ?_⟩) hS ?_
    rotate_left
    · obtain ⟨hW0, hW1, hW2, hW3⟩ := hW; go_simp; try rfl
    try simp only [Act.put, List.setIfInBounds_toArray, List.set_cons_zero, List.set_cons_succ]
    refine wpAnyH_take (i := 1) (v := ?_) ((List.getElem?_toArray ..).trans rfl) (by kernel_rfl) (by kernel_rfl) (by kernel_rfl) (fun _ _ _ h => h) (Or.inl ⟨rfl, fun W hW => ?_⟩) hS ?_
    rotate_left
    · obtain ⟨hW0, hW1, hW2, hW3⟩ := hW; go_simp; try rfl
    try simp only [Act.put, List.setIfInBounds_toArray, List.set_cons_zero, List.set_cons_succ]
    refine wpAnyH_take (i := 2) (v := ?_) ((List.getElem?_toArray ..).trans rfl) (by kernel_rfl) (by kernel_rfl) (by kernel_rfl) (fun _ _ _ h => h) (Or.inl ⟨rfl, fun W hW => ?_⟩) hS ?_
    rotate_left
    · obtain ⟨hW0, hW1, hW2, hW3⟩ := hW; go_simp; try rfl
    try simp only [Act.put, List.setIfInBounds_toArray, List.set_cons_zero, List.set_cons_succ]
    refine wpAnyH_take (i := 3) (v := ?_) ((List.getElem?_toArray ..).trans rfl) (by kernel_rfl) (by kernel_rfl) (by kernel_rfl) (fun _ _ _ h => h) (Or.inl ⟨rfl, fun W hW => ?_⟩) hS ?_
    rotate_left
    · obtain ⟨hW0, hW1, hW2, hW3⟩ := hW; go_simp; try rfl
    try simp only [Act.put, List.setIfInBounds_toArray, List.set_cons_zero, List.set_cons_succ]
    refine wpAnyH_ready (rs := [4]) (by kernel_rfl) (by simp) (AllReadyH.cons ((List.getElem?_toArray ..).trans rfl) (fun K hK => ?_) AllReadyH.nil)
    go_simp
    refine (S.call (back_any nd HD.out.1)).mono ?_; clear S; rintro e w1 ⟨⟨v, rfl, nv⟩, S, H⟩; replace n1 := n1.hold H; replace nd := nd.hold H; clear H
    go_wp2_with fail
    refine hK.out _ _ ⟨S.c 0 0 rfl rfl, S.c 0 1 rfl rfl, S.c 1 0 rfl rfl, S.c 1 1 rfl rfl⟩ (fun hS => ?_)
    clear hK K
    try simp only [Act.put, List.setIfInBounds_toArray, List.set_cons_zero, List.set_cons_succ]
    refine wpAnyH_ready (rs := [5]) (by kernel_rfl) (by simp) (AllReadyH.cons ((List.getElem?_toArray ..).trans rfl) (fun K hK => ?_) AllReadyH.nil)
    go_simp
    refine (S.call (equalU_same n1 nv HD.out.1)).mono ?_; clear S; rintro e w2 ⟨rfl, S, H⟩; replace n1 := n1.hold H; replace nd := nd.hold H; replace nv := nv.hold H; clear H
    go_wp2_with fail
    refine hK.out _ _ ⟨S.c 0 0 rfl rfl, S.c 0 1 rfl rfl, S.c 1 0 rfl rfl, S.c 1 1 rfl rfl⟩ (fun hS => ?_)
    clear hK K
    try simp only [Act.put, List.setIfInBounds_toArray, List.set_cons_zero, List.set_cons_succ]
    refine wpAnyH_take (i := 6) (v := ?_) ((List.getElem?_toArray ..).trans rfl) (by kernel_rfl) (by kernel_rfl) (by kernel_rfl) (fun _ _ _ h => h) (Or.inl ⟨rfl, fun W hW => ?_⟩) hS ?_
    rotate_left
    · obtain ⟨hW0, hW1, hW2, hW3⟩ := hW; go_simp; try rfl
    try simp only [Act.put, List.setIfInBounds_toArray, List.set_cons_zero, List.set_cons_succ]
    refine wpAnyH_take (i := 7) (v := ?_) ((List.getElem?_toArray ..).trans rfl) (by kernel_rfl) (by kernel_rfl) (by kernel_rfl) (fun _ _ _ h => h) (Or.inl ⟨rfl, fun W hW => ?_⟩) hS ?_
    rotate_left
    · obtain ⟨hW0, hW1, hW2, hW3⟩ := hW; go_simp; try rfl
    try simp only [Act.put, List.setIfInBounds_toArray, List.set_cons_zero, List.set_cons_succ]
    refine wpAnyH_take (i := 8) (v := ?_) ((List.getElem?_toArray ..).trans rfl) (by kernel_rfl) (by kernel_rfl) (by kernel_rfl) (fun _ _ _ h => h) (Or.inl ⟨rfl, fun W hW => ?_⟩) hS ?_
    rotate_left
    · obtain ⟨hW0, hW1, hW2, hW3⟩ := hW; go_simp; try rfl
    try simp only [Act.put, List.setIfInBounds_toArray, List.set_cons_zero, List.set_cons_succ]
    refine wpAnyH_take (i := 9) (v := ?_) ((List.getElem?_toArray ..).trans rfl) (by kernel_rfl) (by kernel_rfl) (by kernel_rfl) (fun _ _ _ h => h) (Or.inl ⟨rfl, fun W hW => ?_⟩) hS ?_
    rotate_left
    · obtain ⟨hW0, hW1, hW2, hW3⟩ := hW; go_simp; try rfl
    try simp only [Act.put, List.setIfInBounds_toArray, List.set_cons_zero, List.set_cons_succ]
    refine wpAnyH_take (i := 10) (v := ?_) ((List.getElem?_toArray ..).trans rfl) (by kernel_rfl) (by kernel_rfl) (by kernel_rfl) (fun _ _ _ h => h) (Or.inl ⟨rfl, fun W hW => ?_⟩) hS ?_
    rotate_left
    · obtain ⟨hW0, hW1, hW2, hW3⟩ := hW; go_simp; try rfl
    try simp only [Act.put, List.setIfInBounds_toArray, List.set_cons_zero, List.set_cons_succ]
    refine wpAnyH_take (i := 11) (v := ?_) ((List.getElem?_toArray ..).trans rfl) (by kernel_rfl) (by kernel_rfl) (by kernel_rfl) (fun _ _ _ h => h) (Or.inl ⟨rfl, fun W hW => ?_⟩) hS ?_
    rotate_left
    · obtain ⟨hW0, hW1, hW2, hW3⟩ := hW; go_simp; try rfl
    try simp only [Act.put, List.setIfInBounds_toArray, List.set_cons_zero, List.set_cons_succ]
    refine wpAnyH_take (i := 12) (v := undef) ((List.getElem?_toArray ..).trans rfl) (by kernel_rfl) (by kernel_rfl) (by kernel_rfl) (fun _ _ _ h => h) (Or.inr ⟨rfl, rfl⟩) hS ?_
    try simp only [Act.put, List.setIfInBounds_toArray, List.set_cons_zero, List.set_cons_succ]
    refine wpAnyH_take (i := 13) (v := undef) ((List.getElem?_toArray ..).trans rfl) (by kernel_rfl) (by kernel_rfl) (by kernel_rfl) (fun _ _ _ h => h) (Or.inr ⟨rfl, rfl⟩) hS ?_
    try simp only [Act.put, List.setIfInBounds_toArray, List.set_cons_zero, List.set_cons_succ]
    refine wpAnyH_take (i := 14) (v := undef) ((List.getElem?_toArray ..).trans rfl) (by kernel_rfl) (by kernel_rfl) (by kernel_rfl) (fun _ _ _ h => h) (Or.inr ⟨rfl, rfl⟩) hS ?_
    try simp only [Act.put, List.setIfInBounds_toArray, List.set_cons_zero, List.set_cons_succ]
    refine wpAnyH_take (i := 15) (v := undef) ((List.getElem?_toArray ..).trans rfl) (by kernel_rfl) (by kernel_rfl) (by kernel_rfl) (fun _ _ _ h => h) (Or.inr ⟨rfl, rfl⟩) hS ?_
    try simp only [Act.put, List.setIfInBounds_toArray, List.set_cons_zero, List.set_cons_succ]
    refine wpAnyH_take (i := 16) (v := ?_) ((List.getElem?_toArray ..).trans rfl) (by kernel_rfl) (by kernel_rfl) (by kernel_rfl) (fun _ _ _ h => h) (Or.inl ⟨rfl, fun W hW => ?_⟩) hS ?_
    rotate_left
    · obtain ⟨hW0, hW1, hW2, hW3⟩ := hW; go_simp; try rfl
    try simp only [Act.put, List.setIfInBounds_toArray, List.set_cons_zero, List.set_cons_succ]
    refine wpAnyH_take (i := 17) (v := ?_) ((List.getElem?_toArray ..).trans rfl) (by kernel_rfl) (by kernel_rfl) (by kernel_rfl) (fun _ _ _ h => h) (Or.inl ⟨rfl, fun W hW => ?_⟩) hS ?_
    rotate_left
    · obtain ⟨hW0, hW1, hW2, hW3⟩ := hW; go_simp; try rfl
    try simp only [Act.put, List.setIfInBounds_toArray, List.set_cons_zero, List.set_cons_succ]
    refine wpAnyH_take (i := 18) (v := ?_) ((List.getElem?_toArray ..).trans rfl) (by kernel_rfl) (by kernel_rfl) (by kernel_rfl) (fun _ _ _ h => h) (Or.inl ⟨rfl, fun W hW => ?_⟩) hS ?_
    rotate_left
    · obtain ⟨hW0, hW1, hW2, hW3⟩ := hW; go_simp; try rfl
    try simp only [Act.put, List.setIfInBounds_toArray, List.set_cons_zero, List.set_cons_succ]
    refine wpAnyH_take (i := 19) (v := ?_) ((List.getElem?_toArray ..).trans rfl) (by kernel_rfl) (by kernel_rfl) (by kernel_rfl) (fun _ _ _ h => h) (Or.inl ⟨rfl, fun W hW => ?_⟩) hS ?_
    rotate_left
    · obtain ⟨hW0, hW1, hW2, hW3⟩ := hW; go_simp; try rfl
    try simp only [Act.put, List.setIfInBounds_toArray, List.set_cons_zero, List.set_cons_succ]
    refine wpAnyH_take (i := 20) (v := ?_) ((List.getElem?_toArray ..).trans rfl) (by kernel_rfl) (by kernel_rfl) (by kernel_rfl) (fun _ _ _ h => h) (Or.inl ⟨rfl, fun W hW => ?_⟩) hS ?_
    rotate_left
    · obtain ⟨hW0, hW1, hW2, hW3⟩ := hW; go_simp; try rfl
    try simp only [Act.put, List.setIfInBounds_toArray, List.set_cons_zero, List.set_cons_succ]
    refine wpAnyH_ready (rs := [21]) (by kernel_rfl) (by simp) (AllReadyH.cons ((List.getElem?_toArray ..).trans rfl) (fun K hK => ?_) AllReadyH.nil)
    go_simp
    refine (S.call (wcheck_any ⟨p1, l1, K1, by rw [HD.out.2.1], by rw [HD.out.2.2.2]; exact n1⟩ HD.out.2.2.1)).mono ?_; clear S; rintro e w3 ⟨rfl, S, H⟩; replace n1 := n1.hold H; replace nd := nd.hold H; replace nv := nv.hold H; clear H
    go_wp2_with fail
    refine hK.out _ _ ⟨S.c 0 0 rfl rfl, S.c 0 1 rfl rfl, S.c 1 0 rfl rfl, S.c 1 1 rfl rfl⟩ (fun hS => ?_)
    clear hK K
    try simp only [Act.put, List.setIfInBounds_toArray, List.set_cons_zero, List.set_cons_succ]
    refine wpAnyH_take (i := 22) (v := ?_) ((List.getElem?_toArray ..).trans rfl) (by kernel_rfl) (by kernel_rfl) (by kernel_rfl) (fun _ _ _ h => h) (Or.inl ⟨rfl, fun W hW => ?_⟩) hS ?_
    rotate_left
    · obtain ⟨hW0, hW1, hW2, hW3⟩ := hW; go_simp; try rfl
    try simp only [Act.put, List.setIfInBounds_toArray, List.set_cons_zero, List.set_cons_succ]
    refine wpAnyH_take (i := 23) (v := ?_) ((List.getElem?_toArray ..).trans rfl) (by kernel_rfl) (by kernel_rfl) (by kernel_rfl) (fun _ _ _ h => h) (Or.inl ⟨rfl, fun W hW => ?_⟩) hS ?_
    rotate_left
    · obtain ⟨hW0, hW1, hW2, hW3⟩ := hW; go_simp; try rfl
    try simp only [Act.put, List.setIfInBounds_toArray, List.set_cons_zero, List.set_cons_succ]
    refine wpAnyH_ready (rs := [24]) (by kernel_rfl) (by simp) (AllReadyH.cons ((List.getElem?_toArray ..).trans rfl) (fun K hK => ?_) AllReadyH.nil)
    go_simp
    refine hK.out _ _ ⟨S.c 0 0 rfl rfl, S.c 0 1 rfl rfl, S.c 1 0 rfl rfl, S.c 1 1 rfl rfl⟩ (fun hS => ?_)
    clear hK K
    try simp only [Act.put, List.setIfInBounds_toArray, List.set_cons_zero, List.set_cons_succ]
    refine wpAnyH_done (by kernel_rfl) ?_ _
    go_wp2_with fail
    exact bodyPost_ret (v := .bool true) (by simp [results, Tryd.f15, go_sem]) rfl (⟨rfl, S.below⟩)
  | true =>
    by_cases h0 : n = 0
    · obtain rfl : c = false := by rw [← hc]; simp at hz1; exact negB_neg (by omega)
      obtain rfl : l = 0 := hlen.1 h0
      clear hz hz1 hn hc hx hlen h0
      have S := ((St.start w).alloc 25 [.bool false, .slice p1 l1 K1] (w.heap.size)).alloc 30 [.bool true, .slice p 0 K] (w.heap.size + 1)
      replace n1 := n1.hold S.hold
      replace nd := nd.hold S.hold
      have c0_0 := S.c 0 0 rfl rfl
      have c0_1 := S.c 0 1 rfl rfl
      have c1_0 := S.c 1 0 rfl rfl
      have c1_1 := S.c 1 1 rfl rfl
      go_enter Tryd.func15, Tryd.ntmps15
      go_upto_region 1 with fail
      clear c0_0 c0_1 c1_0 c1_1
      replace n1 := n1.hold (Hold.drew _)
      replace nd := nd.hold (Hold.drew _)
      replace S := S.drew
      have tok1 := Lib.hid trivial
      have tok2 := Lib.hid trivial
      have tok3 := Lib.hid trivial
      go_region_held3 (fun W => W.cell? ⟨w.heap.size, 0, none⟩ = some (.bool false) ∧ W.cell? ⟨w.heap.size, 1, none⟩ = some (.slice p1 l1 K1) ∧ W.cell? ⟨w.heap.size + 1, 0, none⟩ = some (.bool true) ∧ W.cell? ⟨w.heap.size + 1, 1, none⟩ = some (.slice p 0 K))
        (first | exact ⟨S.c 0 0 rfl rfl, S.c 0 1 rfl rfl, S.c 1 0 rfl rfl, S.c 1 1 rfl rfl⟩)
        (first
          | (clear tok1; go_at_call 42; refine (S.call (back_any nd HD.out.1)).mono ?_; clear S; rintro e w1 ⟨⟨v, rfl, nv⟩, S, H⟩; replace n1 := n1.hold H; replace nd := nd.hold H; clear H)
          | (clear tok2; go_at_call 41; refine (S.call (equalU_same n1 nv HD.out.1)).mono ?_; clear S; rintro e w2 ⟨rfl, S, H⟩; replace n1 := n1.hold H; replace nd := nd.hold H; replace nv := nv.hold H; clear H)
          | (clear tok3; go_at_call 24; refine (S.call (wcheck_any ⟨p1, l1, K1, by rw [HD.out.2.1], by rw [HD.out.2.2.2]; exact n1⟩ HD.out.2.2.1)).mono ?_; clear S; rintro e w3 ⟨rfl, S, H⟩; replace n1 := n1.hold H; replace nd := nd.hold H; replace nv := nv.hold H; clear H))
      go_wp2_with fail
      exact bodyPost_ret (v := .bool true) (by simp [results, Tryd.f15, go_sem]) rfl (⟨rfl, S.below⟩)
    · obtain rfl : c = true := by rw [← hc]; simp at hz1; exact negB_pos (by omega)
      have hl0 : 0 < l := by have := hlen.2; omega
      have hlI : (0 : Int) < (l : Int) := by omega
      clear hz hz1 hn hc hx hlen h0
      have S := ((St.start w).alloc 25 [.bool true, .slice p1 l1 K1] (w.heap.size)).alloc 30 [.bool true, .slice p l K] (w.heap.size + 1)
      replace n1 := n1.hold S.hold
      replace nd := nd.hold S.hold
      have c0_0 := S.c 0 0 rfl rfl
      have c0_1 := S.c 0 1 rfl rfl
      have c1_0 := S.c 1 0 rfl rfl
      have c1_1 := S.c 1 1 rfl rfl
      go_enter Tryd.func15, Tryd.ntmps15
      go_upto_region 1 with fail
      clear c0_0 c0_1 c1_0 c1_1
      replace n1 := n1.hold (Hold.drew _)
      replace nd := nd.hold (Hold.drew _)
      replace S := S.drew
      have tok1 := Lib.hid trivial
      have tok2 := Lib.hid trivial
      have tok3 := Lib.hid trivial
      go_region_held3 (fun W => W.cell? ⟨w.heap.size, 0, none⟩ = some (.bool true) ∧ W.cell? ⟨w.heap.size, 1, none⟩ = some (.slice p1 l1 K1) ∧ W.cell? ⟨w.heap.size + 1, 0, none⟩ = some (.bool true) ∧ W.cell? ⟨w.heap.size + 1, 1, none⟩ = some (.slice p l K))
        (first | exact ⟨S.c 0 0 rfl rfl, S.c 0 1 rfl rfl, S.c 1 0 rfl rfl, S.c 1 1 rfl rfl⟩)
        (first
          | (clear tok1; go_at_call 42; refine (S.call (back_any nd HD.out.1)).mono ?_; clear S; rintro e w1 ⟨⟨v, rfl, nv⟩, S, H⟩; replace n1 := n1.hold H; replace nd := nd.hold H; clear H)
          | (clear tok2; go_at_call 41; refine (S.call (equalU_same n1 nv HD.out.1)).mono ?_; clear S; rintro e w2 ⟨rfl, S, H⟩; replace n1 := n1.hold H; replace nd := nd.hold H; replace nv := nv.hold H; clear H)
          | (clear tok3; go_at_call 24; refine (S.call (wcheck_any ⟨p1, l1, K1, by rw [HD.out.2.1], by rw [HD.out.2.2.2]; exact n1⟩ HD.out.2.2.1)).mono ?_; clear S; rintro e w3 ⟨rfl, S, H⟩; replace n1 := n1.hold H; replace nd := nd.hold H; replace nv := nv.hold H; clear H))
      go_wp2_with fail
      exact bodyPost_ret (v := .bool true) (by simp [results, Tryd.f15, go_sem]) rfl (⟨rfl, S.below⟩)

end Go.Proofs.YtcopfjooopindaaDoor

namespace Go.Proofs.YtcopfjooopindaaDoor
open Go.RowKit

theorem IsIText.uniq {l m : List Nat} {x : Int} (h : IsIText l x) (g : IsIText m x) : l = m := by
  rcases h with ⟨h0, t, rfl, h1⟩ | ⟨h0, h1⟩ <;> rcases g with ⟨g0, u, rfl, g1⟩ | ⟨g0, g1⟩
  · rw [h1.uniq g1]
  · omega
  · omega
  · exact h1.uniq g1
theorem wtext_lit {va : Value} {x : Int} {w : World} (ha : IsInt w va x) (s : ByteArray) (hx : x.natAbs < maxN) (hs : IsIText (bs s) x) :
    Calls Tryd.prog 33 #[va] w fun e w' => e = .returned (.string s) ∧ Below w.heap.size w w' :=
  (wtext_any ha hx).mono fun e w' ⟨⟨t, he, ht⟩, hB⟩ => ⟨by rw [he, bs_inj (ht.uniq hs)], hB⟩
theorem lit_max (n : Nat) (h : n < 1000000) : n < maxN := lt_maxN (by omega)
theorem itext_pos {l : List Nat} {x : Int} (h : 0 ≤ x) (ht : IsText l x.natAbs) : IsIText l x := .inr ⟨h, ht⟩
theorem itext_neg {l t : List Nat} {x : Int} (h : x < 0) (hl : l = 45 :: t) (ht : IsText t x.natAbs) : IsIText l x := .inl ⟨h, t, hl, ht⟩

section
variable {va vb : Value} {x y : Int} {w : World} (ha : IsInt w va x) (hb : IsInt w vb y) (hx : x.natAbs < maxN) (hy : y.natAbs < maxN) (z : Int)
include ha hb hx hy
theorem wadd_to (hz : x + y = z) (h : z.natAbs < maxN) : Calls Tryd.prog 12 #[va, vb] w fun e w' => (∃ u, e = .returned (.tuple #[u, .int .i64 0]) ∧ IsInt w' u z) ∧ Below w.heap.size w w' := by
  subst hz; exact wadd_any ha hb hx hy h
theorem wsub_to (hz : x - y = z) (h : z.natAbs < maxN) : Calls Tryd.prog 13 #[va, vb] w fun e w' => (∃ u, e = .returned (.tuple #[u, .int .i64 0]) ∧ IsInt w' u z) ∧ Below w.heap.size w w' := by
  subst hz; exact wsub_any ha hb hx hy h
theorem wmul_to (hz : x * y = z) (h : z.natAbs < maxN) : Calls Tryd.prog 18 #[va, vb] w fun e w' => (∃ u, e = .returned (.tuple #[u, .int .i64 0]) ∧ IsInt w' u z) ∧ Below w.heap.size w w' := by
  subst hz; exact wmul_any ha hb hx hy (by rw [← Int.natAbs_mul]; exact h)
theorem wdiv_to (r : Int) (h0 : y ≠ 0) (hz : x / y = z) (hr : x % y = r) : Calls Tryd.prog 20 #[va, vb] w fun e w' => (∃ u v, e = .returned (.tuple #[u, v, .int .i64 0]) ∧ IsInt w' u z ∧ IsInt w' v r) ∧ Below w.heap.size w w' := by
  subst hz; subst hr; exact wdiv_any ha hb hx hy h0
theorem wcompare_to (hz : cmpI x y = z) : Calls Tryd.prog 22 #[va, vb] w fun e w' => e = .returned (.int .i64 z) ∧ Below w.heap.size w w' := by
  subst hz; exact wcompare_any ha hb hx hy
omit hb hy in
theorem wneg_to (hz : -x = z) : Calls Tryd.prog 30 #[va] w fun e w' => (∃ u, e = .returned u ∧ IsInt w' u z) ∧ Below w.heap.size w w' := by
  subst hz; exact wneg_any ha hx
end
theorem wparse_to (s : ByteArray) (w : World) (x : Int) (ho : onlyB (restI (bs s)) = true) (hl : (restI (bs s)).length ≤ 4900) (hx : parseI (bs s) = x) :
    Calls Tryd.prog 34 #[.string s] w fun e w' => (∃ u, e = .returned (.tuple #[u, .int .i64 0]) ∧ IsInt w' u x) ∧ Below w.heap.size w w' := by
  subst hx; exact wparse_ok s w ho hl

end Go.Proofs.YtcopfjooopindaaDoor

namespace Go.Proofs.YtcopfjooopindaaDoor
open Go.RowKit

theorem check_minus (w : World) : Calls Tryd.prog 24 #[.agg #[.bool true, .slice none 0 0]] w fun e w' => e = .returned (.int .i64 2) ∧ Below w.heap.size w w' := by
  have S := (St.start w).alloc 25 [.bool true, .slice none 0 0] (w.heap.size)
  have c0_0 := S.c 0 0 rfl rfl
  have c0_1 := S.c 0 1 rfl rfl
  go_enter Tryd.func24, Tryd.ntmps24
  go_wp2_with fail
  clear c0_0 c0_1
  refine (S.call (check_nat (n := 0) ⟨[], .nil _ _, Can.nil _, rfl⟩ (lit_max _ (by decide)))).mono ?_
  clear S
  rintro e w1 ⟨rfl, S, H⟩
  clear H
  have c0_0 := S.c 0 0 rfl rfl
  have c0_1 := S.c 0 1 rfl rfl
  go_wp2_with fail
  clear c0_0 c0_1
  refine (S.call (bits_nat (m := 0) (t := 0) ⟨[], .nil _ _, Can.nil _, rfl⟩ (lit_max _ (by decide)) rfl)).mono ?_
  clear S
  rintro e w2 ⟨rfl, S, H⟩
  clear H
  have c0_0 := S.c 0 0 rfl rfl
  have c0_1 := S.c 0 1 rfl rfl
  go_wp2_with fail
  exact bodyPost_ret (v := .int .i64 2) (by simp [results, Tryd.f24, go_sem]) rfl (⟨rfl, S.below⟩)

set_option maxRecDepth 100000 in
set_option maxHeartbeats 8000000 in
theorem counts_any (w : World) (hT : Tab w) : Calls Tryd.prog 9 #[] w fun e w' => e = .returned (.bool true) ∧ Below w.heap.size w w' := by
  have HT := Lib.hid hT
  have HB := Lib.hid (And.intro (lit_max 7 (by decide)) (And.intro (lit_max 2 (by decide)) (And.intro (lit_max 14 (by decide)) (And.intro (lit_max 28 (by decide)) (lit_max 9 (by decide))))))
  clear hT
  have S := St.start w
  go_enter Tryd.func9, Tryd.ntmps9
  go_wp2_with fail
  refine (S.call (wof_neg 7 _ (by decide) (by decide) (-7) rfl)).mono ?_
  clear S
  rintro e w1 ⟨⟨_, rfl, pa, la, Ka, rfl, na⟩, S, H⟩
  clear H
  go_wp2_with fail
  refine (S.call (wof_any 2 _ (by decide) (by decide))).mono ?_
  clear S
  rintro e w2 ⟨⟨_, rfl, pb, lb, Kb, rfl, nb⟩, S, H⟩
  replace na := na.hold H
  clear H
  have H := S.hnew 25 [.bool (negB (-7)), .slice pa la Ka]
  replace S := S.alloc 25 [.bool (negB (-7)), .slice pa la Ka] (w2.heap.size)
  replace na := na.hold H
  replace nb := nb.hold H
  clear H
  have H := S.hnew 25 [.bool (negB 2), .slice pb lb Kb]
  replace S := S.alloc 25 [.bool (negB 2), .slice pb lb Kb] (w2.heap.size + 1)
  replace na := na.hold H
  replace nb := nb.hold H
  clear H
  have c0_0 := S.c 0 0 rfl rfl
  have c0_1 := S.c 0 1 rfl rfl
  have c1_0 := S.c 1 0 rfl rfl
  have c1_1 := S.c 1 1 rfl rfl
  go_wp2_with fail
  clear c0_0 c0_1 c1_0 c1_1
  refine (S.call (wdiv_to ⟨_, _, _, rfl, na⟩ ⟨_, _, _, rfl, nb⟩ HB.out.1 HB.out.2.1 (-4) 1 (by decide) (by decide) (by decide))).mono ?_
  clear S
  rintro e w3 ⟨⟨_, _, rfl, ⟨pq, lq, Kq, rfl, nq⟩, ⟨pr, lr, Kr, rfl, nr⟩⟩, S, H⟩
  replace na := na.hold H
  replace nb := nb.hold H
  clear H
  have c0_0 := S.c 0 0 rfl rfl
  have c0_1 := S.c 0 1 rfl rfl
  have c1_0 := S.c 1 0 rfl rfl
  have c1_1 := S.c 1 1 rfl rfl
  have H := S.hnew 25 [.bool (negB (-4)), .slice pq lq Kq]
  replace S := S.alloc 25 [.bool (negB (-4)), .slice pq lq Kq] (w3.heap.size)
  replace na := na.hold H
  replace nb := nb.hold H
  replace nq := nq.hold H
  replace nr := nr.hold H
  clear H
  have H := S.hnew 25 [.bool (negB 1), .slice pr lr Kr]
  replace S := S.alloc 25 [.bool (negB 1), .slice pr lr Kr] (w3.heap.size + 1)
  replace na := na.hold H
  replace nb := nb.hold H
  replace nq := nq.hold H
  replace nr := nr.hold H
  clear H
  clear c0_0 c0_1 c1_0 c1_1
  have c0_0 := S.c 0 0 rfl rfl
  have c0_1 := S.c 0 1 rfl rfl
  have c1_0 := S.c 1 0 rfl rfl
  have c1_1 := S.c 1 1 rfl rfl
  go_wp2_with fail
  clear c0_0 c0_1 c1_0 c1_1
  refine (S.call (wadd_to ⟨_, _, _, rfl, na⟩ ⟨_, _, _, rfl, nb⟩ HB.out.1 HB.out.2.1 (-5) (by decide) (lit_max _ (by decide)))).mono ?_
  clear S
  rintro e w4 ⟨⟨_, rfl, ps, ls, Ks, rfl, ns⟩, S, H⟩
  replace na := na.hold H
  replace nb := nb.hold H
  replace nq := nq.hold H
  replace nr := nr.hold H
  clear H
  have c0_0 := S.c 0 0 rfl rfl
  have c0_1 := S.c 0 1 rfl rfl
  have c1_0 := S.c 1 0 rfl rfl
  have c1_1 := S.c 1 1 rfl rfl
  have H := S.hnew 25 [.bool (negB (-5)), .slice ps ls Ks]
  replace S := S.alloc 25 [.bool (negB (-5)), .slice ps ls Ks] (w4.heap.size)
  replace na := na.hold H
  replace nb := nb.hold H
  replace nq := nq.hold H
  replace nr := nr.hold H
  replace ns := ns.hold H
  clear H
  clear c0_0 c0_1 c1_0 c1_1
  have c0_0 := S.c 0 0 rfl rfl
  have c0_1 := S.c 0 1 rfl rfl
  have c1_0 := S.c 1 0 rfl rfl
  have c1_1 := S.c 1 1 rfl rfl
  go_wp2_with fail
  clear c0_0 c0_1 c1_0 c1_1
  refine (S.call (wmul_to ⟨_, _, _, rfl, na⟩ ⟨_, _, _, rfl, nb⟩ HB.out.1 HB.out.2.1 (-14) (by decide) (lit_max _ (by decide)))).mono ?_
  clear S
  rintro e w5 ⟨⟨_, rfl, pp, lp, Kp, rfl, np⟩, S, H⟩
  replace na := na.hold H
  replace nb := nb.hold H
  replace nq := nq.hold H
  replace nr := nr.hold H
  replace ns := ns.hold H
  clear H
  have c0_0 := S.c 0 0 rfl rfl
  have c0_1 := S.c 0 1 rfl rfl
  have c1_0 := S.c 1 0 rfl rfl
  have c1_1 := S.c 1 1 rfl rfl
  have H := S.hnew 25 [.bool (negB (-14)), .slice pp lp Kp]
  replace S := S.alloc 25 [.bool (negB (-14)), .slice pp lp Kp] (w5.heap.size)
  replace na := na.hold H
  replace nb := nb.hold H
  replace nq := nq.hold H
  replace nr := nr.hold H
  replace ns := ns.hold H
  replace np := np.hold H
  clear H
  clear c0_0 c0_1 c1_0 c1_1
  have c0_0 := S.c 0 0 rfl rfl
  have c0_1 := S.c 0 1 rfl rfl
  have c1_0 := S.c 1 0 rfl rfl
  have c1_1 := S.c 1 1 rfl rfl
  go_wp2_with fail
  clear c0_0 c0_1 c1_0 c1_1
  refine (S.call (wsub_to ⟨_, _, _, rfl, na⟩ ⟨_, _, _, rfl, nb⟩ HB.out.1 HB.out.2.1 (-9) (by decide) (lit_max _ (by decide)))).mono ?_
  clear S
  rintro e w6 ⟨⟨_, rfl, pd, ld, Kd, rfl, nd⟩, S, H⟩
  replace na := na.hold H
  replace nb := nb.hold H
  replace nq := nq.hold H
  replace nr := nr.hold H
  replace ns := ns.hold H
  replace np := np.hold H
  clear H
  have c0_0 := S.c 0 0 rfl rfl
  have c0_1 := S.c 0 1 rfl rfl
  have c1_0 := S.c 1 0 rfl rfl
  have c1_1 := S.c 1 1 rfl rfl
  have H := S.hnew 25 [.bool (negB (-9)), .slice pd ld Kd]
  replace S := S.alloc 25 [.bool (negB (-9)), .slice pd ld Kd] (w6.heap.size)
  replace na := na.hold H
  replace nb := nb.hold H
  replace nq := nq.hold H
  replace nr := nr.hold H
  replace ns := ns.hold H
  replace np := np.hold H
  replace nd := nd.hold H
  clear H
  clear c0_0 c0_1 c1_0 c1_1
  have c0_0 := S.c 0 0 rfl rfl
  have c0_1 := S.c 0 1 rfl rfl
  have c1_0 := S.c 1 0 rfl rfl
  have c1_1 := S.c 1 1 rfl rfl
  go_wp2_with fail
  clear c0_0 c0_1 c1_0 c1_1
  refine (S.call (wparse_to ⟨#[45, 49, 52]⟩ _ (-14) (by decide) (by decide) (by decide))).mono ?_
  clear S
  rintro e w7 ⟨⟨_, rfl, px, lx, Kx, rfl, nx⟩, S, H⟩
  replace na := na.hold H
  replace nb := nb.hold H
  replace nq := nq.hold H
  replace nr := nr.hold H
  replace ns := ns.hold H
  replace np := np.hold H
  replace nd := nd.hold H
  clear H
  have c0_0 := S.c 0 0 rfl rfl
  have c0_1 := S.c 0 1 rfl rfl
  have c1_0 := S.c 1 0 rfl rfl
  have c1_1 := S.c 1 1 rfl rfl
  have H := S.hnew 25 [.bool (negB (-14)), .slice px lx Kx]
  replace S := S.alloc 25 [.bool (negB (-14)), .slice px lx Kx] (w7.heap.size)
  replace na := na.hold H
  replace nb := nb.hold H
  replace nq := nq.hold H
  replace nr := nr.hold H
  replace ns := ns.hold H
  replace np := np.hold H
  replace nd := nd.hold H
  replace nx := nx.hold H
  clear H
  clear c0_0 c0_1 c1_0 c1_1
  have c0_0 := S.c 0 0 rfl rfl
  have c0_1 := S.c 0 1 rfl rfl
  go_wp2_with fail
  clear c0_0 c0_1
  refine (S.call (wleft_any ⟨_, _, _, rfl, na⟩ HB.out.1 2 (by decide) HB.out.2.2.2.1 (-28) (by decide))).mono ?_
  clear S
  rintro e w8 ⟨⟨_, rfl, pl, ll, Kl, rfl, nl⟩, S, H⟩
  replace na := na.hold H
  replace nb := nb.hold H
  replace nq := nq.hold H
  replace nr := nr.hold H
  replace ns := ns.hold H
  replace np := np.hold H
  replace nd := nd.hold H
  replace nx := nx.hold H
  clear H
  have c0_0 := S.c 0 0 rfl rfl
  have c0_1 := S.c 0 1 rfl rfl
  have H := S.hnew 25 [.bool (negB (-28)), .slice pl ll Kl]
  replace S := S.alloc 25 [.bool (negB (-28)), .slice pl ll Kl] (w8.heap.size)
  replace na := na.hold H
  replace nb := nb.hold H
  replace nq := nq.hold H
  replace nr := nr.hold H
  replace ns := ns.hold H
  replace np := np.hold H
  replace nd := nd.hold H
  replace nx := nx.hold H
  replace nl := nl.hold H
  clear H
  clear c0_0 c0_1
  have c0_0 := S.c 0 0 rfl rfl
  have c0_1 := S.c 0 1 rfl rfl
  go_wp2_with fail
  clear c0_0 c0_1
  refine (S.call (wright_any (HT.out.below S.below) ⟨_, _, _, rfl, na⟩ HB.out.1 1 (by decide) (-4) (by decide))).mono ?_
  clear S
  rintro e w9 ⟨⟨_, rfl, pm, lm, Km, rfl, nm⟩, S, H⟩
  replace na := na.hold H
  replace nb := nb.hold H
  replace nq := nq.hold H
  replace nr := nr.hold H
  replace ns := ns.hold H
  replace np := np.hold H
  replace nd := nd.hold H
  replace nx := nx.hold H
  replace nl := nl.hold H
  clear H
  have c0_0 := S.c 0 0 rfl rfl
  have c0_1 := S.c 0 1 rfl rfl
  have H := S.hnew 25 [.bool (negB (-4)), .slice pm lm Km]
  replace S := S.alloc 25 [.bool (negB (-4)), .slice pm lm Km] (w9.heap.size)
  replace na := na.hold H
  replace nb := nb.hold H
  replace nq := nq.hold H
  replace nr := nr.hold H
  replace ns := ns.hold H
  replace np := np.hold H
  replace nd := nd.hold H
  replace nx := nx.hold H
  replace nl := nl.hold H
  replace nm := nm.hold H
  clear H
  clear c0_0 c0_1
  have c0_0 := S.c 0 0 rfl rfl
  have c0_1 := S.c 0 1 rfl rfl
  have c1_0 := S.c 1 0 rfl rfl
  have c1_1 := S.c 1 1 rfl rfl
  have H := S.hnew 25 [.bool (negB (-7)), .slice pa la Ka, .bool (negB 2), .slice pb lb Kb, .bool (negB 2), .slice pb lb Kb]
  replace S := S.alloc 25 [.bool (negB (-7)), .slice pa la Ka, .bool (negB 2), .slice pb lb Kb, .bool (negB 2), .slice pb lb Kb] (w9.heap.size + 1)
  replace na := na.hold H
  replace nb := nb.hold H
  replace nq := nq.hold H
  replace nr := nr.hold H
  replace ns := ns.hold H
  replace np := np.hold H
  replace nd := nd.hold H
  replace nx := nx.hold H
  replace nl := nl.hold H
  replace nm := nm.hold H
  clear H
  go_wp2_with fail
  clear c0_0 c0_1 c1_0 c1_1
  refine (S.call (wsum3 (ints3 S 10 rfl na nb nb) HB.out.1 HB.out.2.1 HB.out.2.1 (lit_max _ (by decide)) (-3) (by decide) (lit_max _ (by decide)))).mono ?_
  clear S
  rintro e w10 ⟨⟨_, rfl, pt, lt, Kt, rfl, nt⟩, S, H⟩
  replace na := na.hold H
  replace nb := nb.hold H
  replace nq := nq.hold H
  replace nr := nr.hold H
  replace ns := ns.hold H
  replace np := np.hold H
  replace nd := nd.hold H
  replace nx := nx.hold H
  replace nl := nl.hold H
  replace nm := nm.hold H
  clear H
  have c2_0 := S.c 2 0 rfl rfl
  have c2_1 := S.c 2 1 rfl rfl
  have H := S.hnew 25 [.bool (negB (-3)), .slice pt lt Kt]
  replace S := S.alloc 25 [.bool (negB (-3)), .slice pt lt Kt] (w10.heap.size)
  replace na := na.hold H
  replace nb := nb.hold H
  replace nq := nq.hold H
  replace nr := nr.hold H
  replace ns := ns.hold H
  replace np := np.hold H
  replace nd := nd.hold H
  replace nx := nx.hold H
  replace nl := nl.hold H
  replace nm := nm.hold H
  replace nt := nt.hold H
  clear H
  clear c2_0 c2_1
  have c2_0 := S.c 2 0 rfl rfl
  have c2_1 := S.c 2 1 rfl rfl
  go_wp2_with fail
  generalize (.tuple #[.agg #[.bool (negB (-5)), .slice ps ls Ks], .int .i64 0] : Value) = g1
  generalize (.tuple #[.agg #[.bool (negB (-14)), .slice pp lp Kp], .int .i64 0] : Value) = g2
  generalize (.tuple #[.agg #[.bool (negB (-9)), .slice pd ld Kd], .int .i64 0] : Value) = g3
  generalize (.tuple #[.agg #[.bool (negB (-14)), .slice px lx Kx], .int .i64 0] : Value) = g4
  generalize (.tuple #[.agg #[.bool (negB (-28)), .slice pl ll Kl], .int .i64 0] : Value) = g5
  generalize (.tuple #[.agg #[.bool (negB (-4)), .slice pm lm Km], .int .i64 0] : Value) = g6
  generalize (.tuple #[.agg #[.bool (negB (-3)), .slice pt lt Kt], .int .i64 0] : Value) = g7
  generalize (.tuple #[.agg #[.bool (negB (-4)), .slice pq lq Kq], .agg #[.bool (negB 1), .slice pr lr Kr], .int .i64 0] : Value) = g8
  generalize (.agg #[.bool (negB (-7)), .slice pa la Ka] : Value) = g9
  generalize (.agg #[.bool (negB (2)), .slice pb lb Kb] : Value) = g10
  generalize (.agg #[.bool (negB (1)), .slice pr lr Kr] : Value) = g11
  generalize (.agg #[.bool (negB (-5)), .slice ps ls Ks] : Value) = g12
  generalize (.agg #[.bool (negB (-14)), .slice pp lp Kp] : Value) = g13
  generalize (.agg #[.bool (negB (-9)), .slice pd ld Kd] : Value) = g14
  generalize (.agg #[.bool (negB (-14)), .slice px lx Kx] : Value) = g15
  generalize (.agg #[.bool (negB (-28)), .slice pl ll Kl] : Value) = g16
  generalize (.agg #[.bool (negB (-4)), .slice pm lm Km] : Value) = g17
  generalize (.agg #[.bool (negB (-3)), .slice pt lt Kt] : Value) = g18
  clear c2_0 c2_1
  refine (S.call (wsmall_ok ⟨_, _, _, rfl, nq⟩ (by decide) (by decide))).mono ?_
  clear S
  rintro e w11 ⟨rfl, S, H⟩
  replace na := na.hold H
  replace nb := nb.hold H
  replace nq := nq.hold H
  replace nr := nr.hold H
  replace ns := ns.hold H
  replace np := np.hold H
  replace nd := nd.hold H
  replace nx := nx.hold H
  replace nl := nl.hold H
  replace nm := nm.hold H
  replace nt := nt.hold H
  clear H
  have c3_0 := S.c 3 0 rfl rfl
  have c3_1 := S.c 3 1 rfl rfl
  go_wp2_with fail
  clear c3_0 c3_1
  refine (S.call (wtext_lit ⟨_, _, _, rfl, nr⟩ ⟨#[49]⟩ (lit_max _ (by decide)) (itext_pos (by decide) ⟨by decide, by decide, by decide, by decide⟩))).mono ?_
  clear S
  rintro e w12 ⟨rfl, S, H⟩
  replace na := na.hold H
  replace nb := nb.hold H
  replace nq := nq.hold H
  replace nr := nr.hold H
  replace ns := ns.hold H
  replace np := np.hold H
  replace nd := nd.hold H
  replace nx := nx.hold H
  replace nl := nl.hold H
  replace nm := nm.hold H
  replace nt := nt.hold H
  clear H
  have c4_0 := S.c 4 0 rfl rfl
  have c4_1 := S.c 4 1 rfl rfl
  go_wp2_with fail
  clear c4_0 c4_1
  refine (S.call (wtext_lit ⟨_, _, _, rfl, ns⟩ ⟨#[45, 53]⟩ (lit_max _ (by decide)) (itext_neg (by decide) rfl ⟨by decide, by decide, by decide, by decide⟩))).mono ?_
  clear S
  rintro e w13 ⟨rfl, S, H⟩
  replace na := na.hold H
  replace nb := nb.hold H
  replace nq := nq.hold H
  replace nr := nr.hold H
  replace ns := ns.hold H
  replace np := np.hold H
  replace nd := nd.hold H
  replace nx := nx.hold H
  replace nl := nl.hold H
  replace nm := nm.hold H
  replace nt := nt.hold H
  clear H
  have c5_0 := S.c 5 0 rfl rfl
  have c5_1 := S.c 5 1 rfl rfl
  have c7_0 := S.c 7 0 rfl rfl
  have c7_1 := S.c 7 1 rfl rfl
  go_wp2_with fail
  clear c5_0 c5_1 c7_0 c7_1
  refine (S.call (wsame_any ⟨_, _, _, rfl, np⟩ ⟨_, _, _, rfl, nx⟩ HB.out.2.2.1 HB.out.2.2.1 (r := true) (by decide))).mono ?_
  clear S
  rintro e w14 ⟨rfl, S, H⟩
  replace na := na.hold H
  replace nb := nb.hold H
  replace nq := nq.hold H
  replace nr := nr.hold H
  replace ns := ns.hold H
  replace np := np.hold H
  replace nd := nd.hold H
  replace nx := nx.hold H
  replace nl := nl.hold H
  replace nm := nm.hold H
  replace nt := nt.hold H
  clear H
  have c6_0 := S.c 6 0 rfl rfl
  have c6_1 := S.c 6 1 rfl rfl
  go_wp2_with fail
  clear c6_0 c6_1
  refine (S.call (wtext_lit ⟨_, _, _, rfl, nd⟩ ⟨#[45, 57]⟩ (lit_max _ (by decide)) (itext_neg (by decide) rfl ⟨by decide, by decide, by decide, by decide⟩))).mono ?_
  clear S
  rintro e w15 ⟨rfl, S, H⟩
  replace na := na.hold H
  replace nb := nb.hold H
  replace nq := nq.hold H
  replace nr := nr.hold H
  replace ns := ns.hold H
  replace np := np.hold H
  replace nd := nd.hold H
  replace nx := nx.hold H
  replace nl := nl.hold H
  replace nm := nm.hold H
  replace nt := nt.hold H
  clear H
  have c8_0 := S.c 8 0 rfl rfl
  have c8_1 := S.c 8 1 rfl rfl
  go_wp2_with fail
  clear c8_0 c8_1
  refine (S.call (wtext_lit ⟨_, _, _, rfl, nl⟩ ⟨#[45, 50, 56]⟩ (lit_max _ (by decide)) (itext_neg (by decide) rfl ⟨by decide, by decide, by decide, by decide⟩))).mono ?_
  clear S
  rintro e w16 ⟨rfl, S, H⟩
  replace na := na.hold H
  replace nb := nb.hold H
  replace nq := nq.hold H
  replace nr := nr.hold H
  replace ns := ns.hold H
  replace np := np.hold H
  replace nd := nd.hold H
  replace nx := nx.hold H
  replace nl := nl.hold H
  replace nm := nm.hold H
  replace nt := nt.hold H
  clear H
  have c9_0 := S.c 9 0 rfl rfl
  have c9_1 := S.c 9 1 rfl rfl
  go_wp2_with fail
  clear c9_0 c9_1
  refine (S.call (wtext_lit ⟨_, _, _, rfl, nm⟩ ⟨#[45, 52]⟩ (lit_max _ (by decide)) (itext_neg (by decide) rfl ⟨by decide, by decide, by decide, by decide⟩))).mono ?_
  clear S
  rintro e w17 ⟨rfl, S, H⟩
  replace na := na.hold H
  replace nb := nb.hold H
  replace nq := nq.hold H
  replace nr := nr.hold H
  replace ns := ns.hold H
  replace np := np.hold H
  replace nd := nd.hold H
  replace nx := nx.hold H
  replace nl := nl.hold H
  replace nm := nm.hold H
  replace nt := nt.hold H
  clear H
  have c11_0 := S.c 11 0 rfl rfl
  have c11_1 := S.c 11 1 rfl rfl
  go_wp2_with fail
  clear c11_0 c11_1
  refine (S.call (wtext_lit ⟨_, _, _, rfl, nt⟩ ⟨#[45, 51]⟩ (lit_max _ (by decide)) (itext_neg (by decide) rfl ⟨by decide, by decide, by decide, by decide⟩))).mono ?_
  clear S
  rintro e w18 ⟨rfl, S, H⟩
  replace na := na.hold H
  replace nb := nb.hold H
  replace nq := nq.hold H
  replace nr := nr.hold H
  replace ns := ns.hold H
  replace np := np.hold H
  replace nd := nd.hold H
  replace nx := nx.hold H
  replace nl := nl.hold H
  replace nm := nm.hold H
  replace nt := nt.hold H
  clear H
  have c0_0 := S.c 0 0 rfl rfl
  have c0_1 := S.c 0 1 rfl rfl
  go_wp2_with fail
  clear c0_0 c0_1
  refine (S.call (wsign_any ⟨_, _, _, rfl, na⟩ HB.out.1 (s := -1) (by decide))).mono ?_
  clear S
  rintro e w19 ⟨rfl, S, H⟩
  replace na := na.hold H
  replace nb := nb.hold H
  replace nq := nq.hold H
  replace nr := nr.hold H
  replace ns := ns.hold H
  replace np := np.hold H
  replace nd := nd.hold H
  replace nx := nx.hold H
  replace nl := nl.hold H
  replace nm := nm.hold H
  replace nt := nt.hold H
  clear H
  have c0_0 := S.c 0 0 rfl rfl
  have c0_1 := S.c 0 1 rfl rfl
  have c1_0 := S.c 1 0 rfl rfl
  have c1_1 := S.c 1 1 rfl rfl
  go_wp2_with fail
  clear c0_0 c0_1 c1_0 c1_1
  refine (S.call (wcompare_to ⟨_, _, _, rfl, na⟩ ⟨_, _, _, rfl, nb⟩ HB.out.1 HB.out.2.1 (-1) (by decide))).mono ?_
  clear S
  rintro e w20 ⟨rfl, S, H⟩
  replace na := na.hold H
  replace nb := nb.hold H
  replace nq := nq.hold H
  replace nr := nr.hold H
  replace ns := ns.hold H
  replace np := np.hold H
  replace nd := nd.hold H
  replace nx := nx.hold H
  replace nl := nl.hold H
  replace nm := nm.hold H
  replace nt := nt.hold H
  clear H
  have c0_0 := S.c 0 0 rfl rfl
  have c0_1 := S.c 0 1 rfl rfl
  go_wp2_with fail
  clear c0_0 c0_1
  refine (S.call (wneg_to ⟨_, _, _, rfl, na⟩ HB.out.1 7 (by decide))).mono ?_
  clear S
  rintro e w21 ⟨⟨_, rfl, py, ly, Ky, rfl, ny⟩, S, H⟩
  replace na := na.hold H
  replace nb := nb.hold H
  replace nq := nq.hold H
  replace nr := nr.hold H
  replace ns := ns.hold H
  replace np := np.hold H
  replace nd := nd.hold H
  replace nx := nx.hold H
  replace nl := nl.hold H
  replace nm := nm.hold H
  replace nt := nt.hold H
  clear H
  go_wp2_with fail
  refine (S.call (wtext_lit ⟨_, _, _, rfl, ny⟩ ⟨#[55]⟩ (lit_max _ (by decide)) (itext_pos (by decide) ⟨by decide, by decide, by decide, by decide⟩))).mono ?_
  clear S
  rintro e w22 ⟨rfl, S, H⟩
  replace na := na.hold H
  replace nb := nb.hold H
  replace nq := nq.hold H
  replace nr := nr.hold H
  replace ns := ns.hold H
  replace np := np.hold H
  replace nd := nd.hold H
  replace nx := nx.hold H
  replace nl := nl.hold H
  replace nm := nm.hold H
  replace nt := nt.hold H
  replace ny := ny.hold H
  clear H
  have c0_0 := S.c 0 0 rfl rfl
  have c0_1 := S.c 0 1 rfl rfl
  go_wp2_with fail
  clear c0_0 c0_1
  refine (S.call (wabs_any ⟨_, _, _, rfl, na⟩ HB.out.1 7 (by decide))).mono ?_
  clear S
  rintro e w23 ⟨⟨_, rfl, pz, lz, Kz, rfl, nz⟩, S, H⟩
  replace na := na.hold H
  replace nb := nb.hold H
  replace nq := nq.hold H
  replace nr := nr.hold H
  replace ns := ns.hold H
  replace np := np.hold H
  replace nd := nd.hold H
  replace nx := nx.hold H
  replace nl := nl.hold H
  replace nm := nm.hold H
  replace nt := nt.hold H
  replace ny := ny.hold H
  clear H
  go_wp2_with fail
  refine (S.call (wtext_lit ⟨_, _, _, rfl, nz⟩ ⟨#[55]⟩ (lit_max _ (by decide)) (itext_pos (by decide) ⟨by decide, by decide, by decide, by decide⟩))).mono ?_
  clear S
  rintro e w24 ⟨rfl, S, H⟩
  replace na := na.hold H
  replace nb := nb.hold H
  replace nq := nq.hold H
  replace nr := nr.hold H
  replace ns := ns.hold H
  replace np := np.hold H
  replace nd := nd.hold H
  replace nx := nx.hold H
  replace nl := nl.hold H
  replace nm := nm.hold H
  replace nt := nt.hold H
  replace ny := ny.hold H
  replace nz := nz.hold H
  clear H
  go_wp2_with fail
  refine (S.call (of_any 5 _ (by decide))).mono ?_
  clear S
  rintro e w25 ⟨⟨v5, rfl, n5⟩, S, H⟩
  replace na := na.hold H
  replace nb := nb.hold H
  replace nq := nq.hold H
  replace nr := nr.hold H
  replace ns := ns.hold H
  replace np := np.hold H
  replace nd := nd.hold H
  replace nx := nx.hold H
  replace nl := nl.hold H
  replace nm := nm.hold H
  replace nt := nt.hold H
  replace ny := ny.hold H
  replace nz := nz.hold H
  clear H
  go_wp2_with fail
  refine (S.call (wnat_any n5 (lit_max _ (by decide)) 5 (by decide))).mono ?_
  clear S
  rintro e w26 ⟨⟨_, rfl, pw, lw, Kw, rfl, nw⟩, S, H⟩
  replace na := na.hold H
  replace nb := nb.hold H
  replace nq := nq.hold H
  replace nr := nr.hold H
  replace ns := ns.hold H
  replace np := np.hold H
  replace nd := nd.hold H
  replace nx := nx.hold H
  replace nl := nl.hold H
  replace nm := nm.hold H
  replace nt := nt.hold H
  replace ny := ny.hold H
  replace nz := nz.hold H
  replace n5 := n5.hold H
  clear H
  go_wp2_with fail
  refine (S.call (wtext_lit ⟨_, _, _, rfl, nw⟩ ⟨#[53]⟩ (lit_max _ (by decide)) (itext_pos (by decide) ⟨by decide, by decide, by decide, by decide⟩))).mono ?_
  clear S
  rintro e w27 ⟨rfl, S, H⟩
  replace na := na.hold H
  replace nb := nb.hold H
  replace nq := nq.hold H
  replace nr := nr.hold H
  replace ns := ns.hold H
  replace np := np.hold H
  replace nd := nd.hold H
  replace nx := nx.hold H
  replace nl := nl.hold H
  replace nm := nm.hold H
  replace nt := nt.hold H
  replace ny := ny.hold H
  replace nz := nz.hold H
  replace n5 := n5.hold H
  replace nw := nw.hold H
  clear H
  go_wp2_with fail
  refine (S.call (check_minus _)).mono ?_
  clear S
  rintro e w28 ⟨rfl, S, H⟩
  replace na := na.hold H
  replace nb := nb.hold H
  replace nq := nq.hold H
  replace nr := nr.hold H
  replace ns := ns.hold H
  replace np := np.hold H
  replace nd := nd.hold H
  replace nx := nx.hold H
  replace nl := nl.hold H
  replace nm := nm.hold H
  replace nt := nt.hold H
  replace ny := ny.hold H
  replace nz := nz.hold H
  replace n5 := n5.hold H
  replace nw := nw.hold H
  clear H
  go_wp2_with fail
  exact bodyPost_ret (v := .bool true) (by simp [results, Tryd.f9, go_sem]) rfl (⟨rfl, S.below⟩)

end Go.Proofs.YtcopfjooopindaaDoor

namespace Go.Proofs.YtcopfjooopindaaDoor
open Go.RowKit

theorem tried_int {b : Bool} {ds : List Nat} {k l : Nat} {p : Option Addr} {K : Nat} {w : World} (h : Tried3 k b ds) (hd : Dig 4294967296 ds) (hl : ds.length = l) (hat : At .u32 w p K ds) :
    ∃ z : Int, Hid (negB z = b) ∧ z.natAbs < NB k ∧ IsNat w (.slice p l K) z.natAbs := by
  subst hl
  have hc : Can 4294967296 ds := ⟨hd, h.2.1⟩
  have hb := nb_len hc h.1
  have hn : IsNat w (.slice p ds.length K) (val 4294967296 ds) := ⟨ds, hat.nums, hc, rfl⟩
  cases b with
  | false =>
    refine ⟨(val 4294967296 ds : Nat), negB_neg (by omega), ?_, ?_⟩
    · simpa using hb
    · simpa using hn
  | true =>
    have h0 : val 4294967296 ds ≠ 0 := fun e => h.2.2 rfl (hc.eq_nil (by decide) e)
    refine ⟨-((val 4294967296 ds : Nat) : Int), negB_pos (by omega), ?_, ?_⟩
    · simpa using hb
    · simpa using hn
theorem field_sig (c : Bool) (q : Option Addr) (j J : Nat) (w : World) : (Instr.field 30 (.agg #[.bool c, .slice q j J]) 1).run Tryd.prog w = .ok (.slice q j J) w := by kernel_rfl
theorem IsNat.len {w : World} {p : Option Addr} {l K n : Nat} (h : IsNat w (.slice p l K) n) : (n = 0 ↔ l = 0) := by
  obtain ⟨ds, ⟨p', K', e, _⟩, hc, hv⟩ := h
  have hl : l = ds.length := by cases e; rfl
  rw [hl]
  constructor
  · intro h0
    rw [hc.eq_nil (by decide) (by rw [hv]; exact h0)]
    rfl
  · intro h0
    rw [← hv, List.eq_nil_of_length_eq_zero h0]
    rfl
theorem sigMul {x y : Int} {b1 b2 : Bool} (h1 : negB x = b1) (h2 : negB y = b2) {c d : Bool} {m n : Nat} (hx : x = if c then -(m : Int) else (m : Int)) (hy : y = if d then -(n : Int) else (n : Int)) {z : Int} (hz : x * y = z) :
    z = if (b1 != b2) then -((m * n : Nat) : Int) else ((m * n : Nat) : Int) := by
  have hm : x.natAbs = m := by rw [hx]; cases c <;> simp
  have hn : y.natAbs = n := by rw [hy]; cases d <;> simp
  subst hz
  subst h1; subst h2
  rw [← hm, ← hn, mul_flag x y]
  cases negB x <;> cases negB y <;> rfl
theorem sig_max {x : Int} {c : Bool} {m : Nat} (hx : x = if c then -(m : Int) else (m : Int)) (h : x.natAbs < NB 30) : m < maxN := by
  have hm : x.natAbs = m := by rw [hx]; cases c <;> simp
  rw [← hm]
  exact nb_max h (by decide)
theorem cmp_same (z : Int) : (cmpI z z == 0) = true := by unfold cmpI; simp

end Go.Proofs.YtcopfjooopindaaDoor
