/-
  What the statement stands on.
-/
import Derived.Test.YtnkmcikjeicpfaaGreatDoorM23
namespace Go.Proofs.YtnkmcikjeicpfaaGreatDoor
open Go.RowKit
set_option maxRecDepth 100000 in
set_option maxHeartbeats 8000000 in
theorem smul_any {va vb : Value} {x y u v : Rat} {w : World} {L H : Nat} (hT : Tab w) (ha : IsSp w va x y L H) (hb : IsSp w vb u v L H) (hk : H + H + 1 + (L + L) ≤ 16384) (n : Nat) (hn2 : 2 ≤ n) (hn4 : n ≤ 4096) (lo hi : Rat) (hlo : min2 (min2 (min2 (x * u) (x * v)) (y * u)) (y * v) = lo) (hhi : max2 (max2 (max2 (x * u) (x * v)) (y * u)) (y * v) = hi) :
    Calls Tryz.prog 15 #[va, vb, .int .i64 n] w fun e w' => (∃ z, e = .returned (.tuple #[z, .int .i64 0]) ∧ IsSp w' z (rq lo n false) (rq hi n true) (L + L) (H + H + 1)) ∧ Below w.heap.size w w' := by
  obtain ⟨b1, p1, l1, K1, m1, e1, b2, p2, l2, K2, m2, e2, rfl, h1, n1, d1, h2, n2, d2⟩ := ha
  obtain ⟨b3, p3, l3, K3, m3, e3, b4, p4, l4, K4, m4, e4, rfl, h3, n3, d3, h4, n4, d4⟩ := hb
  have HK := Lib.hid (And.intro (show H + H + (L + L) ≤ 16384 by omega) (And.intro hn2 (And.intro hn4 (And.intro hT hk))))
  subst hlo hhi
  clear hk hn2 hn4 hT
  have i0 : ∀ W : World, (Instr.index 85 (.agg #[.bool b1, .slice p1 l1 K1, .int .i64 e1, .bool b2, .slice p2 l2 K2, .int .i64 e2]) (.int .i64 0)).run Tryz.prog W = .ok (.agg #[.bool b1, .slice p1 l1 K1, .int .i64 e1]) W := fun _ => by kernel_rfl
  have i1 : ∀ W : World, (Instr.index 85 (.agg #[.bool b1, .slice p1 l1 K1, .int .i64 e1, .bool b2, .slice p2 l2 K2, .int .i64 e2]) (.int .i64 1)).run Tryz.prog W = .ok (.agg #[.bool b2, .slice p2 l2 K2, .int .i64 e2]) W := fun _ => by kernel_rfl
  have j0 : ∀ W : World, (Instr.index 85 (.agg #[.bool b3, .slice p3 l3 K3, .int .i64 e3, .bool b4, .slice p4 l4 K4, .int .i64 e4]) (.int .i64 0)).run Tryz.prog W = .ok (.agg #[.bool b3, .slice p3 l3 K3, .int .i64 e3]) W := fun _ => by kernel_rfl
  have j1 : ∀ W : World, (Instr.index 85 (.agg #[.bool b3, .slice p3 l3 K3, .int .i64 e3, .bool b4, .slice p4 l4 K4, .int .i64 e4]) (.int .i64 1)).run Tryz.prog W = .ok (.agg #[.bool b4, .slice p4 l4 K4, .int .i64 e4]) W := fun _ => by kernel_rfl
  have S := (((St.start w).alloc 29 [.bool b1, .slice p1 l1 K1, .int .i64 e1, .bool b2, .slice p2 l2 K2, .int .i64 e2] (w.heap.size)).alloc 29 [.bool b3, .slice p3 l3 K3, .int .i64 e3, .bool b4, .slice p4 l4 K4, .int .i64 e4] (w.heap.size + 1)).alloc 29 [.bool false, .slice none 0 0, .int .i64 0, .bool false, .slice none 0 0, .int .i64 0] (w.heap.size + 1 + 1)
  try simp only [List.cons_append, List.nil_append] at S
  replace n1 := n1.hold S.hold; replace n2 := n2.hold S.hold; replace n3 := n3.hold S.hold; replace n4 := n4.hold S.hold
  obtain ⟨c0_0, c0_1, c0_2, c0_3, c0_4, c0_5⟩ := S.c6 0 rfl; obtain ⟨c1_0, c1_1, c1_2, c1_3, c1_4, c1_5⟩ := S.c6 1 rfl; obtain ⟨c2_0, c2_1, c2_2, c2_3, c2_4, c2_5⟩ := S.c6 2 rfl
  go_enter Tryz.func15, Tryz.ntmps15
  have H := S.hnew 84 [.bool false, .slice none 0 0, .int .i64 0, .bool false, .slice none 0 0, .int .i64 0, .bool false, .slice none 0 0, .int .i64 0, .bool false, .slice none 0 0, .int .i64 0]
  replace S := S.alloc 84 [.bool false, .slice none 0 0, .int .i64 0, .bool false, .slice none 0 0, .int .i64 0, .bool false, .slice none 0 0, .int .i64 0, .bool false, .slice none 0 0, .int .i64 0] (w.heap.size + 1 + 1 + 1)
  try simp only [List.cons_append, List.nil_append] at S
  replace n1 := n1.hold H; replace n2 := n2.hold H; replace n3 := n3.hold H; replace n4 := n4.hold H
  clear H; clear c0_0 c0_1 c0_2 c0_3 c0_4 c0_5 c1_0 c1_1 c1_2 c1_3 c1_4 c1_5 c2_0 c2_1 c2_2 c2_3 c2_4 c2_5; obtain ⟨c0_0, c0_1, c0_2, c0_3, c0_4, c0_5⟩ := S.c6 0 rfl; obtain ⟨c1_0, c1_1, c1_2, c1_3, c1_4, c1_5⟩ := S.c6 1 rfl; obtain ⟨c2_0, c2_1, c2_2, c2_3, c2_4, c2_5⟩ := S.c6 2 rfl; obtain ⟨c3_0, c3_1, c3_2, c3_3, c3_4, c3_5⟩ := S.c6 3 rfl; have c3_6 := S.c 3 6 rfl rfl; have c3_7 := S.c 3 7 rfl rfl; have c3_8 := S.c 3 8 rfl rfl; have c3_9 := S.c 3 9 rfl rfl; have c3_10 := S.c 3 10 rfl rfl; have c3_11 := S.c 3 11 rfl rfl; go_wp2_with fail; clear c0_0 c0_1 c0_2 c0_3 c0_4 c0_5 c1_0 c1_1 c1_2 c1_3 c1_4 c1_5 c2_0 c2_1 c2_2 c2_3 c2_4 c2_5 c3_0 c3_1 c3_2 c3_3 c3_4 c3_5 c3_6 c3_7 c3_8 c3_9 c3_10 c3_11
  refine (S.call (sends_any b1 b2 p1 p2 l1 K1 l2 K2 e1 e2 _)).mono ?_
  clear S
  rintro e w1 ⟨rfl, S, H⟩
  replace n1 := n1.hold H; replace n2 := n2.hold H; replace n3 := n3.hold H; replace n4 := n4.hold H
  clear H; obtain ⟨c0_0, c0_1, c0_2, c0_3, c0_4, c0_5⟩ := S.c6 0 rfl; obtain ⟨c1_0, c1_1, c1_2, c1_3, c1_4, c1_5⟩ := S.c6 1 rfl; obtain ⟨c2_0, c2_1, c2_2, c2_3, c2_4, c2_5⟩ := S.c6 2 rfl; obtain ⟨c3_0, c3_1, c3_2, c3_3, c3_4, c3_5⟩ := S.c6 3 rfl; have c3_6 := S.c 3 6 rfl rfl; have c3_7 := S.c 3 7 rfl rfl; have c3_8 := S.c 3 8 rfl rfl; have c3_9 := S.c 3 9 rfl rfl; have c3_10 := S.c 3 10 rfl rfl; have c3_11 := S.c 3 11 rfl rfl; go_wp2_with fail; clear c0_0 c0_1 c0_2 c0_3 c0_4 c0_5 c1_0 c1_1 c1_2 c1_3 c1_4 c1_5 c2_0 c2_1 c2_2 c2_3 c2_4 c2_5 c3_0 c3_1 c3_2 c3_3 c3_4 c3_5 c3_6 c3_7 c3_8 c3_9 c3_10 c3_11
  go_loopw [20] (fun si wr => (si = .int .i64 0 ∧ IsNat wr (.slice p1 l1 K1) m1.natAbs ∧ IsNat wr (.slice p2 l2 K2) m2.natAbs ∧ IsNat wr (.slice p3 l3 K3) m3.natAbs ∧ IsNat wr (.slice p4 l4 K4) m4.natAbs ∧ St w wr [(w.heap.size, 29, [.bool b1, .slice p1 l1 K1, .int .i64 e1, .bool b2, .slice p2 l2 K2, .int .i64 e2]), (w.heap.size + 1, 29, [.bool b3, .slice p3 l3 K3, .int .i64 e3, .bool b4, .slice p4 l4 K4, .int .i64 e4]), (w.heap.size + 1 + 1, 29, [.bool false, .slice none 0 0, .int .i64 0, .bool false, .slice none 0 0, .int .i64 0]), (w.heap.size + 1 + 1 + 1, 84, [.bool false, .slice none 0 0, .int .i64 0, .bool false, .slice none 0 0, .int .i64 0, .bool false, .slice none 0 0, .int .i64 0, .bool false, .slice none 0 0, .int .i64 0])]) ∨ (si = .int .i64 1 ∧ IsNat wr (.slice p1 l1 K1) m1.natAbs ∧ IsNat wr (.slice p2 l2 K2) m2.natAbs ∧ IsNat wr (.slice p3 l3 K3) m3.natAbs ∧ IsNat wr (.slice p4 l4 K4) m4.natAbs ∧ ∃ b5 p5 l5 K5 m5 e5 b6 p6 l6 K6 m6 e6, Hid (negB m5 = b5) ∧ IsNat wr (.slice p5 l5 K5) m5.natAbs ∧ Hid (DyF m5 e5 (x * u) (L + L) (H + H)) ∧ Hid (negB m6 = b6) ∧ IsNat wr (.slice p6 l6 K6) m6.natAbs ∧ Hid (DyF m6 e6 (x * v) (L + L) (H + H)) ∧ St w wr [(w.heap.size, 29, [.bool b1, .slice p1 l1 K1, .int .i64 e1, .bool b2, .slice p2 l2 K2, .int .i64 e2]), (w.heap.size + 1, 29, [.bool b3, .slice p3 l3 K3, .int .i64 e3, .bool b4, .slice p4 l4 K4, .int .i64 e4]), (w.heap.size + 1 + 1, 29, [.bool false, .slice none 0 0, .int .i64 0, .bool false, .slice none 0 0, .int .i64 0]), (w.heap.size + 1 + 1 + 1, 84, [.bool b5, .slice p5 l5 K5, .int .i64 e5, .bool b6, .slice p6 l6 K6, .int .i64 e6, .bool false, .slice none 0 0, .int .i64 0, .bool false, .slice none 0 0, .int .i64 0])]) ∨ (si = .int .i64 2 ∧ IsNat wr (.slice p1 l1 K1) m1.natAbs ∧ IsNat wr (.slice p2 l2 K2) m2.natAbs ∧ IsNat wr (.slice p3 l3 K3) m3.natAbs ∧ IsNat wr (.slice p4 l4 K4) m4.natAbs ∧ ∃ b5 p5 l5 K5 m5 e5 b6 p6 l6 K6 m6 e6 b7 p7 l7 K7 m7 e7 b8 p8 l8 K8 m8 e8, Hid (negB m5 = b5) ∧ IsNat wr (.slice p5 l5 K5) m5.natAbs ∧ Hid (DyF m5 e5 (x * u) (L + L) (H + H)) ∧ Hid (negB m6 = b6) ∧ IsNat wr (.slice p6 l6 K6) m6.natAbs ∧ Hid (DyF m6 e6 (x * v) (L + L) (H + H)) ∧ Hid (negB m7 = b7) ∧ IsNat wr (.slice p7 l7 K7) m7.natAbs ∧ Hid (DyF m7 e7 (y * u) (L + L) (H + H)) ∧ Hid (negB m8 = b8) ∧ IsNat wr (.slice p8 l8 K8) m8.natAbs ∧ Hid (DyF m8 e8 (y * v) (L + L) (H + H)) ∧ St w wr [(w.heap.size, 29, [.bool b1, .slice p1 l1 K1, .int .i64 e1, .bool b2, .slice p2 l2 K2, .int .i64 e2]), (w.heap.size + 1, 29, [.bool b3, .slice p3 l3 K3, .int .i64 e3, .bool b4, .slice p4 l4 K4, .int .i64 e4]), (w.heap.size + 1 + 1, 29, [.bool false, .slice none 0 0, .int .i64 0, .bool false, .slice none 0 0, .int .i64 0]), (w.heap.size + 1 + 1 + 1, 84, [.bool b5, .slice p5 l5 K5, .int .i64 e5, .bool b6, .slice p6 l6 K6, .int .i64 e6, .bool b7, .slice p7 l7 K7, .int .i64 e7, .bool b8, .slice p8 l8 K8, .int .i64 e8])])) (fun si _ => 2 - (intOf si).toNat)
  case atStart => exact .inl ⟨rfl, n1, n2, n3, n4, S⟩
  case round =>
    clear n1 n2 n3 n4 S
    rcases hrel with ⟨rfl, n1, n2, n3, n4, S⟩ | ⟨rfl, n1, n2, n3, n4, b5, p5, l5, K5, m5, e5, b6, p6, l6, K6, m6, e6, h5, n5, d5, h6, n6, d6, S⟩ | ⟨rfl, n1, n2, n3, n4, b5, p5, l5, K5, m5, e5, b6, p6, l6, K6, m6, e6, b7, p7, l7, K7, m7, e7, b8, p8, l8, K8, m8, e8, h5, n5, d5, h6, n6, d6, h7, n7, d7, h8, n8, d8, S⟩
    ·
      have H := S.hnew 27 [.bool b1, .slice p1 l1 K1, .int .i64 e1]
      replace S := S.alloc 27 [.bool b1, .slice p1 l1 K1, .int .i64 e1] (wr.heap.size)
      try simp only [List.cons_append, List.nil_append] at S
      replace n1 := n1.hold H; replace n2 := n2.hold H; replace n3 := n3.hold H; replace n4 := n4.hold H
      clear H; obtain ⟨c0_0, c0_1, c0_2, c0_3, c0_4, c0_5⟩ := S.c6 0 rfl; obtain ⟨c1_0, c1_1, c1_2, c1_3, c1_4, c1_5⟩ := S.c6 1 rfl; obtain ⟨c2_0, c2_1, c2_2, c2_3, c2_4, c2_5⟩ := S.c6 2 rfl; obtain ⟨c3_0, c3_1, c3_2, c3_3, c3_4, c3_5⟩ := S.c6 3 rfl; have c3_6 := S.c 3 6 rfl rfl; have c3_7 := S.c 3 7 rfl rfl; have c3_8 := S.c 3 8 rfl rfl; have c3_9 := S.c 3 9 rfl rfl; have c3_10 := S.c 3 10 rfl rfl; have c3_11 := S.c 3 11 rfl rfl; obtain ⟨c4_0, c4_1, c4_2⟩ := S.c3 4 rfl; go_wp2_with fail; clear c0_0 c0_1 c0_2 c0_3 c0_4 c0_5 c1_0 c1_1 c1_2 c1_3 c1_4 c1_5 c2_0 c2_1 c2_2 c2_3 c2_4 c2_5 c3_0 c3_1 c3_2 c3_3 c3_4 c3_5 c3_6 c3_7 c3_8 c3_9 c3_10 c3_11 c4_0 c4_1 c4_2
      refine (S.call (sends_any b3 b4 p3 p4 l3 K3 l4 K4 e3 e4 _)).mono ?_
      clear S
      rintro e w21 ⟨rfl, S, H⟩
      replace n1 := n1.hold H; replace n2 := n2.hold H; replace n3 := n3.hold H; replace n4 := n4.hold H
      clear H; obtain ⟨c0_0, c0_1, c0_2, c0_3, c0_4, c0_5⟩ := S.c6 0 rfl; obtain ⟨c1_0, c1_1, c1_2, c1_3, c1_4, c1_5⟩ := S.c6 1 rfl; obtain ⟨c2_0, c2_1, c2_2, c2_3, c2_4, c2_5⟩ := S.c6 2 rfl; obtain ⟨c3_0, c3_1, c3_2, c3_3, c3_4, c3_5⟩ := S.c6 3 rfl; have c3_6 := S.c 3 6 rfl rfl; have c3_7 := S.c 3 7 rfl rfl; have c3_8 := S.c 3 8 rfl rfl; have c3_9 := S.c 3 9 rfl rfl; have c3_10 := S.c 3 10 rfl rfl; have c3_11 := S.c 3 11 rfl rfl; obtain ⟨c4_0, c4_1, c4_2⟩ := S.c3 4 rfl; go_wp2_with fail; clear c0_0 c0_1 c0_2 c0_3 c0_4 c0_5 c1_0 c1_1 c1_2 c1_3 c1_4 c1_5 c2_0 c2_1 c2_2 c2_3 c2_4 c2_5 c3_0 c3_1 c3_2 c3_3 c3_4 c3_5 c3_6 c3_7 c3_8 c3_9 c3_10 c3_11 c4_0 c4_1 c4_2
      obtain ⟨g10, hg10⟩ : ∃ g, wr.heap.size = g := ⟨_, rfl⟩
      rw [hg10] at S ⊢
      clear hg10
      go_loopw [26] (fun si wr => (si = .int .i64 0 ∧ IsNat wr (.slice p1 l1 K1) m1.natAbs ∧ IsNat wr (.slice p2 l2 K2) m2.natAbs ∧ IsNat wr (.slice p3 l3 K3) m3.natAbs ∧ IsNat wr (.slice p4 l4 K4) m4.natAbs ∧ St w wr [(w.heap.size, 29, [.bool b1, .slice p1 l1 K1, .int .i64 e1, .bool b2, .slice p2 l2 K2, .int .i64 e2]), (w.heap.size + 1, 29, [.bool b3, .slice p3 l3 K3, .int .i64 e3, .bool b4, .slice p4 l4 K4, .int .i64 e4]), (w.heap.size + 1 + 1, 29, [.bool false, .slice none 0 0, .int .i64 0, .bool false, .slice none 0 0, .int .i64 0]), (w.heap.size + 1 + 1 + 1, 84, [.bool false, .slice none 0 0, .int .i64 0, .bool false, .slice none 0 0, .int .i64 0, .bool false, .slice none 0 0, .int .i64 0, .bool false, .slice none 0 0, .int .i64 0]), (g10, 27, [.bool b1, .slice p1 l1 K1, .int .i64 e1])]) ∨ (si = .int .i64 1 ∧ IsNat wr (.slice p1 l1 K1) m1.natAbs ∧ IsNat wr (.slice p2 l2 K2) m2.natAbs ∧ IsNat wr (.slice p3 l3 K3) m3.natAbs ∧ IsNat wr (.slice p4 l4 K4) m4.natAbs ∧ ∃ b5 p5 l5 K5 m5 e5, Hid (negB m5 = b5) ∧ IsNat wr (.slice p5 l5 K5) m5.natAbs ∧ Hid (DyF m5 e5 (x * u) (L + L) (H + H)) ∧ St w wr [(w.heap.size, 29, [.bool b1, .slice p1 l1 K1, .int .i64 e1, .bool b2, .slice p2 l2 K2, .int .i64 e2]), (w.heap.size + 1, 29, [.bool b3, .slice p3 l3 K3, .int .i64 e3, .bool b4, .slice p4 l4 K4, .int .i64 e4]), (w.heap.size + 1 + 1, 29, [.bool false, .slice none 0 0, .int .i64 0, .bool false, .slice none 0 0, .int .i64 0]), (w.heap.size + 1 + 1 + 1, 84, [.bool b5, .slice p5 l5 K5, .int .i64 e5, .bool false, .slice none 0 0, .int .i64 0, .bool false, .slice none 0 0, .int .i64 0, .bool false, .slice none 0 0, .int .i64 0]), (g10, 27, [.bool b1, .slice p1 l1 K1, .int .i64 e1])]) ∨ (si = .int .i64 2 ∧ IsNat wr (.slice p1 l1 K1) m1.natAbs ∧ IsNat wr (.slice p2 l2 K2) m2.natAbs ∧ IsNat wr (.slice p3 l3 K3) m3.natAbs ∧ IsNat wr (.slice p4 l4 K4) m4.natAbs ∧ ∃ b5 p5 l5 K5 m5 e5 b6 p6 l6 K6 m6 e6, Hid (negB m5 = b5) ∧ IsNat wr (.slice p5 l5 K5) m5.natAbs ∧ Hid (DyF m5 e5 (x * u) (L + L) (H + H)) ∧ Hid (negB m6 = b6) ∧ IsNat wr (.slice p6 l6 K6) m6.natAbs ∧ Hid (DyF m6 e6 (x * v) (L + L) (H + H)) ∧ St w wr [(w.heap.size, 29, [.bool b1, .slice p1 l1 K1, .int .i64 e1, .bool b2, .slice p2 l2 K2, .int .i64 e2]), (w.heap.size + 1, 29, [.bool b3, .slice p3 l3 K3, .int .i64 e3, .bool b4, .slice p4 l4 K4, .int .i64 e4]), (w.heap.size + 1 + 1, 29, [.bool false, .slice none 0 0, .int .i64 0, .bool false, .slice none 0 0, .int .i64 0]), (w.heap.size + 1 + 1 + 1, 84, [.bool b5, .slice p5 l5 K5, .int .i64 e5, .bool b6, .slice p6 l6 K6, .int .i64 e6, .bool false, .slice none 0 0, .int .i64 0, .bool false, .slice none 0 0, .int .i64 0]), (g10, 27, [.bool b1, .slice p1 l1 K1, .int .i64 e1])])) (fun si _ => 2 - (intOf si).toNat)
      case atStart => exact .inl ⟨rfl, n1, n2, n3, n4, S⟩
      case round =>
        clear n1 n2 n3 n4 S
        rcases hrel with ⟨rfl, n1, n2, n3, n4, S⟩ | ⟨rfl, n1, n2, n3, n4, b5, p5, l5, K5, m5, e5, h5, n5, d5, S⟩ | ⟨rfl, n1, n2, n3, n4, b5, p5, l5, K5, m5, e5, b6, p6, l6, K6, m6, e6, h5, n5, d5, h6, n6, d6, S⟩
        ·
          have H := S.hnew 27 [.bool b3, .slice p3 l3 K3, .int .i64 e3]
          replace S := S.alloc 27 [.bool b3, .slice p3 l3 K3, .int .i64 e3] (wr.heap.size)
          try simp only [List.cons_append, List.nil_append] at S
          replace n1 := n1.hold H; replace n2 := n2.hold H; replace n3 := n3.hold H; replace n4 := n4.hold H
          clear H; obtain ⟨c3_0, c3_1, c3_2, c3_3, c3_4, c3_5⟩ := S.c6 3 rfl; have c3_6 := S.c 3 6 rfl rfl; have c3_7 := S.c 3 7 rfl rfl; have c3_8 := S.c 3 8 rfl rfl; have c3_9 := S.c 3 9 rfl rfl; have c3_10 := S.c 3 10 rfl rfl; have c3_11 := S.c 3 11 rfl rfl; obtain ⟨c4_0, c4_1, c4_2⟩ := S.c3 4 rfl; obtain ⟨c5_0, c5_1, c5_2⟩ := S.c3 5 rfl; go_wp2_with fail; clear c3_0 c3_1 c3_2 c3_3 c3_4 c3_5 c3_6 c3_7 c3_8 c3_9 c3_10 c3_11 c4_0 c4_1 c4_2 c5_0 c5_1 c5_2
          refine (S.call (dmul_any (HK.out.2.2.2.1.below S.below) ⟨b1, p1, l1, K1, m1, e1, rfl, h1, n1, d1⟩ ⟨b3, p3, l3, K3, m3, e3, rfl, h3, n3, d3⟩ HK.out.1 (x * u) rfl)).mono ?_
          clear S
          rintro e w41 ⟨⟨_, rfl, b5, p5, l5, K5, m5, e5, rfl, h5, n5, d5⟩, S, H⟩
          replace n1 := n1.hold H; replace n2 := n2.hold H; replace n3 := n3.hold H; replace n4 := n4.hold H
          clear H; obtain ⟨c3_0, c3_1, c3_2, c3_3, c3_4, c3_5⟩ := S.c6 3 rfl; have c3_6 := S.c 3 6 rfl rfl; have c3_7 := S.c 3 7 rfl rfl; have c3_8 := S.c 3 8 rfl rfl; have c3_9 := S.c 3 9 rfl rfl; have c3_10 := S.c 3 10 rfl rfl; have c3_11 := S.c 3 11 rfl rfl; obtain ⟨c4_0, c4_1, c4_2⟩ := S.c3 4 rfl; obtain ⟨c5_0, c5_1, c5_2⟩ := S.c3 5 rfl; clear c3_0 c3_1 c3_2 c3_3 c3_4 c3_5 c3_6 c3_7 c3_8 c3_9 c3_10 c3_11 c4_0 c4_1 c4_2 c5_0 c5_1 c5_2; obtain ⟨c3_0, c3_1, c3_2, c3_3, c3_4, c3_5⟩ := S.c6 3 rfl; have c3_6 := S.c 3 6 rfl rfl; have c3_7 := S.c 3 7 rfl rfl; have c3_8 := S.c 3 8 rfl rfl; have c3_9 := S.c 3 9 rfl rfl; have c3_10 := S.c 3 10 rfl rfl; have c3_11 := S.c 3 11 rfl rfl; have f3_0 := S.f 3 0 rfl
          have H := S.hset 3 0 (.bool b5) rfl rfl (by intro q n e; cases e)
          replace S := S.set 3 0 (.bool b5) rfl
          replace n1 := n1.hold H; replace n2 := n2.hold H; replace n3 := n3.hold H; replace n4 := n4.hold H; replace n5 := n5.hold H
          clear H; have f3_1 := S.f 3 1 rfl
          have H := S.hset 3 1 (.slice p5 l5 K5) rfl rfl (by intro q n e; cases e)
          replace S := S.set 3 1 (.slice p5 l5 K5) rfl
          replace n1 := n1.hold H; replace n2 := n2.hold H; replace n3 := n3.hold H; replace n4 := n4.hold H; replace n5 := n5.hold H
          clear H; have f3_2 := S.f 3 2 rfl
          have H := S.hset32 3 2 (.int .i64 e5) rfl rfl (by intro n e; cases e)
          replace S := S.set 3 2 (.int .i64 e5) rfl
          replace n1 := n1.hold32 H; replace n2 := n2.hold32 H; replace n3 := n3.hold32 H; replace n4 := n4.hold32 H; replace n5 := n5.hold32 H; clear H; go_wp2_with fail
          replace S := S.take 5 (L := [(w.heap.size, 29, [.bool b1, .slice p1 l1 K1, .int .i64 e1, .bool b2, .slice p2 l2 K2, .int .i64 e2]), (w.heap.size + 1, 29, [.bool b3, .slice p3 l3 K3, .int .i64 e3, .bool b4, .slice p4 l4 K4, .int .i64 e4]), (w.heap.size + 1 + 1, 29, [.bool false, .slice none 0 0, .int .i64 0, .bool false, .slice none 0 0, .int .i64 0]), (w.heap.size + 1 + 1 + 1, 84, [.bool b5, .slice p5 l5 K5, .int .i64 e5, .bool false, .slice none 0 0, .int .i64 0, .bool false, .slice none 0 0, .int .i64 0, .bool false, .slice none 0 0, .int .i64 0]), (g10, 27, [.bool b1, .slice p1 l1 K1, .int .i64 e1])]) rfl
          go_roundw
          case rel => exact .inr (.inl ⟨rfl, n1, n2, n3, n4, b5, p5, l5, K5, m5, e5, h5, n5, d5, S⟩)
          case measure => simp [intOf]
        ·
          have H := S.hnew 27 [.bool b4, .slice p4 l4 K4, .int .i64 e4]
          replace S := S.alloc 27 [.bool b4, .slice p4 l4 K4, .int .i64 e4] (wr.heap.size)
          try simp only [List.cons_append, List.nil_append] at S
          replace n1 := n1.hold H; replace n2 := n2.hold H; replace n3 := n3.hold H; replace n4 := n4.hold H; replace n5 := n5.hold H
          clear H; obtain ⟨c3_0, c3_1, c3_2, c3_3, c3_4, c3_5⟩ := S.c6 3 rfl; have c3_6 := S.c 3 6 rfl rfl; have c3_7 := S.c 3 7 rfl rfl; have c3_8 := S.c 3 8 rfl rfl; have c3_9 := S.c 3 9 rfl rfl; have c3_10 := S.c 3 10 rfl rfl; have c3_11 := S.c 3 11 rfl rfl; obtain ⟨c4_0, c4_1, c4_2⟩ := S.c3 4 rfl; obtain ⟨c5_0, c5_1, c5_2⟩ := S.c3 5 rfl; go_wp2_with fail; clear c3_0 c3_1 c3_2 c3_3 c3_4 c3_5 c3_6 c3_7 c3_8 c3_9 c3_10 c3_11 c4_0 c4_1 c4_2 c5_0 c5_1 c5_2
          refine (S.call (dmul_any (HK.out.2.2.2.1.below S.below) ⟨b1, p1, l1, K1, m1, e1, rfl, h1, n1, d1⟩ ⟨b4, p4, l4, K4, m4, e4, rfl, h4, n4, d4⟩ HK.out.1 (x * v) rfl)).mono ?_
          clear S
          rintro e w41 ⟨⟨_, rfl, b6, p6, l6, K6, m6, e6, rfl, h6, n6, d6⟩, S, H⟩
          replace n1 := n1.hold H; replace n2 := n2.hold H; replace n3 := n3.hold H; replace n4 := n4.hold H; replace n5 := n5.hold H
          clear H; obtain ⟨c3_0, c3_1, c3_2, c3_3, c3_4, c3_5⟩ := S.c6 3 rfl; have c3_6 := S.c 3 6 rfl rfl; have c3_7 := S.c 3 7 rfl rfl; have c3_8 := S.c 3 8 rfl rfl; have c3_9 := S.c 3 9 rfl rfl; have c3_10 := S.c 3 10 rfl rfl; have c3_11 := S.c 3 11 rfl rfl; obtain ⟨c4_0, c4_1, c4_2⟩ := S.c3 4 rfl; obtain ⟨c5_0, c5_1, c5_2⟩ := S.c3 5 rfl; clear c3_0 c3_1 c3_2 c3_3 c3_4 c3_5 c3_6 c3_7 c3_8 c3_9 c3_10 c3_11 c4_0 c4_1 c4_2 c5_0 c5_1 c5_2; obtain ⟨c3_0, c3_1, c3_2, c3_3, c3_4, c3_5⟩ := S.c6 3 rfl; have c3_6 := S.c 3 6 rfl rfl; have c3_7 := S.c 3 7 rfl rfl; have c3_8 := S.c 3 8 rfl rfl; have c3_9 := S.c 3 9 rfl rfl; have c3_10 := S.c 3 10 rfl rfl; have c3_11 := S.c 3 11 rfl rfl; have f3_3 := S.f 3 3 rfl
          have H := S.hset 3 3 (.bool b6) rfl rfl (by intro q n e; cases e)
          replace S := S.set 3 3 (.bool b6) rfl
          replace n1 := n1.hold H; replace n2 := n2.hold H; replace n3 := n3.hold H; replace n4 := n4.hold H; replace n5 := n5.hold H; replace n6 := n6.hold H
          clear H; have f3_4 := S.f 3 4 rfl
          have H := S.hset 3 4 (.slice p6 l6 K6) rfl rfl (by intro q n e; cases e)
          replace S := S.set 3 4 (.slice p6 l6 K6) rfl
          replace n1 := n1.hold H; replace n2 := n2.hold H; replace n3 := n3.hold H; replace n4 := n4.hold H; replace n5 := n5.hold H; replace n6 := n6.hold H
          clear H; have f3_5 := S.f 3 5 rfl
          have H := S.hset32 3 5 (.int .i64 e6) rfl rfl (by intro n e; cases e)
          replace S := S.set 3 5 (.int .i64 e6) rfl
          replace n1 := n1.hold32 H; replace n2 := n2.hold32 H; replace n3 := n3.hold32 H; replace n4 := n4.hold32 H; replace n5 := n5.hold32 H; replace n6 := n6.hold32 H; clear H; go_wp2_with fail
          replace S := S.take 5 (L := [(w.heap.size, 29, [.bool b1, .slice p1 l1 K1, .int .i64 e1, .bool b2, .slice p2 l2 K2, .int .i64 e2]), (w.heap.size + 1, 29, [.bool b3, .slice p3 l3 K3, .int .i64 e3, .bool b4, .slice p4 l4 K4, .int .i64 e4]), (w.heap.size + 1 + 1, 29, [.bool false, .slice none 0 0, .int .i64 0, .bool false, .slice none 0 0, .int .i64 0]), (w.heap.size + 1 + 1 + 1, 84, [.bool b5, .slice p5 l5 K5, .int .i64 e5, .bool b6, .slice p6 l6 K6, .int .i64 e6, .bool false, .slice none 0 0, .int .i64 0, .bool false, .slice none 0 0, .int .i64 0]), (g10, 27, [.bool b1, .slice p1 l1 K1, .int .i64 e1])]) rfl
          go_roundw
          case rel => exact .inr (.inr ⟨rfl, n1, n2, n3, n4, b5, p5, l5, K5, m5, e5, b6, p6, l6, K6, m6, e6, h5, n5, d5, h6, n6, d6, S⟩)
          case measure => simp [intOf]
        ·
          go_wp2_with fail
          replace S := S.take 4 (L := [(w.heap.size, 29, [.bool b1, .slice p1 l1 K1, .int .i64 e1, .bool b2, .slice p2 l2 K2, .int .i64 e2]), (w.heap.size + 1, 29, [.bool b3, .slice p3 l3 K3, .int .i64 e3, .bool b4, .slice p4 l4 K4, .int .i64 e4]), (w.heap.size + 1 + 1, 29, [.bool false, .slice none 0 0, .int .i64 0, .bool false, .slice none 0 0, .int .i64 0]), (w.heap.size + 1 + 1 + 1, 84, [.bool b5, .slice p5 l5 K5, .int .i64 e5, .bool b6, .slice p6 l6 K6, .int .i64 e6, .bool false, .slice none 0 0, .int .i64 0, .bool false, .slice none 0 0, .int .i64 0])]) rfl
          go_roundw
          case rel => exact .inr (.inl ⟨rfl, n1, n2, n3, n4, b5, p5, l5, K5, m5, e5, b6, p6, l6, K6, m6, e6, h5, n5, d5, h6, n6, d6, S⟩)
          case measure => simp [intOf]
    ·
      have H := S.hnew 27 [.bool b2, .slice p2 l2 K2, .int .i64 e2]
      replace S := S.alloc 27 [.bool b2, .slice p2 l2 K2, .int .i64 e2] (wr.heap.size)
      try simp only [List.cons_append, List.nil_append] at S
      replace n1 := n1.hold H; replace n2 := n2.hold H; replace n3 := n3.hold H; replace n4 := n4.hold H; replace n5 := n5.hold H; replace n6 := n6.hold H
      clear H; obtain ⟨c0_0, c0_1, c0_2, c0_3, c0_4, c0_5⟩ := S.c6 0 rfl; obtain ⟨c1_0, c1_1, c1_2, c1_3, c1_4, c1_5⟩ := S.c6 1 rfl; obtain ⟨c2_0, c2_1, c2_2, c2_3, c2_4, c2_5⟩ := S.c6 2 rfl; obtain ⟨c3_0, c3_1, c3_2, c3_3, c3_4, c3_5⟩ := S.c6 3 rfl; have c3_6 := S.c 3 6 rfl rfl; have c3_7 := S.c 3 7 rfl rfl; have c3_8 := S.c 3 8 rfl rfl; have c3_9 := S.c 3 9 rfl rfl; have c3_10 := S.c 3 10 rfl rfl; have c3_11 := S.c 3 11 rfl rfl; obtain ⟨c4_0, c4_1, c4_2⟩ := S.c3 4 rfl; go_wp2_with fail; clear c0_0 c0_1 c0_2 c0_3 c0_4 c0_5 c1_0 c1_1 c1_2 c1_3 c1_4 c1_5 c2_0 c2_1 c2_2 c2_3 c2_4 c2_5 c3_0 c3_1 c3_2 c3_3 c3_4 c3_5 c3_6 c3_7 c3_8 c3_9 c3_10 c3_11 c4_0 c4_1 c4_2
      refine (S.call (sends_any b3 b4 p3 p4 l3 K3 l4 K4 e3 e4 _)).mono ?_
      clear S
      rintro e w21 ⟨rfl, S, H⟩
      replace n1 := n1.hold H; replace n2 := n2.hold H; replace n3 := n3.hold H; replace n4 := n4.hold H; replace n5 := n5.hold H; replace n6 := n6.hold H
      clear H; obtain ⟨c0_0, c0_1, c0_2, c0_3, c0_4, c0_5⟩ := S.c6 0 rfl; obtain ⟨c1_0, c1_1, c1_2, c1_3, c1_4, c1_5⟩ := S.c6 1 rfl; obtain ⟨c2_0, c2_1, c2_2, c2_3, c2_4, c2_5⟩ := S.c6 2 rfl; obtain ⟨c3_0, c3_1, c3_2, c3_3, c3_4, c3_5⟩ := S.c6 3 rfl; have c3_6 := S.c 3 6 rfl rfl; have c3_7 := S.c 3 7 rfl rfl; have c3_8 := S.c 3 8 rfl rfl; have c3_9 := S.c 3 9 rfl rfl; have c3_10 := S.c 3 10 rfl rfl; have c3_11 := S.c 3 11 rfl rfl; obtain ⟨c4_0, c4_1, c4_2⟩ := S.c3 4 rfl; go_wp2_with fail; clear c0_0 c0_1 c0_2 c0_3 c0_4 c0_5 c1_0 c1_1 c1_2 c1_3 c1_4 c1_5 c2_0 c2_1 c2_2 c2_3 c2_4 c2_5 c3_0 c3_1 c3_2 c3_3 c3_4 c3_5 c3_6 c3_7 c3_8 c3_9 c3_10 c3_11 c4_0 c4_1 c4_2
      obtain ⟨g10, hg10⟩ : ∃ g, wr.heap.size = g := ⟨_, rfl⟩
      rw [hg10] at S ⊢
      clear hg10
      go_loopw [26] (fun si wr => (si = .int .i64 0 ∧ IsNat wr (.slice p1 l1 K1) m1.natAbs ∧ IsNat wr (.slice p2 l2 K2) m2.natAbs ∧ IsNat wr (.slice p3 l3 K3) m3.natAbs ∧ IsNat wr (.slice p4 l4 K4) m4.natAbs ∧ ∃ b5 p5 l5 K5 m5 e5 b6 p6 l6 K6 m6 e6, Hid (negB m5 = b5) ∧ IsNat wr (.slice p5 l5 K5) m5.natAbs ∧ Hid (DyF m5 e5 (x * u) (L + L) (H + H)) ∧ Hid (negB m6 = b6) ∧ IsNat wr (.slice p6 l6 K6) m6.natAbs ∧ Hid (DyF m6 e6 (x * v) (L + L) (H + H)) ∧ St w wr [(w.heap.size, 29, [.bool b1, .slice p1 l1 K1, .int .i64 e1, .bool b2, .slice p2 l2 K2, .int .i64 e2]), (w.heap.size + 1, 29, [.bool b3, .slice p3 l3 K3, .int .i64 e3, .bool b4, .slice p4 l4 K4, .int .i64 e4]), (w.heap.size + 1 + 1, 29, [.bool false, .slice none 0 0, .int .i64 0, .bool false, .slice none 0 0, .int .i64 0]), (w.heap.size + 1 + 1 + 1, 84, [.bool b5, .slice p5 l5 K5, .int .i64 e5, .bool b6, .slice p6 l6 K6, .int .i64 e6, .bool false, .slice none 0 0, .int .i64 0, .bool false, .slice none 0 0, .int .i64 0]), (g10, 27, [.bool b2, .slice p2 l2 K2, .int .i64 e2])]) ∨ (si = .int .i64 1 ∧ IsNat wr (.slice p1 l1 K1) m1.natAbs ∧ IsNat wr (.slice p2 l2 K2) m2.natAbs ∧ IsNat wr (.slice p3 l3 K3) m3.natAbs ∧ IsNat wr (.slice p4 l4 K4) m4.natAbs ∧ ∃ b5 p5 l5 K5 m5 e5 b6 p6 l6 K6 m6 e6 b7 p7 l7 K7 m7 e7, Hid (negB m5 = b5) ∧ IsNat wr (.slice p5 l5 K5) m5.natAbs ∧ Hid (DyF m5 e5 (x * u) (L + L) (H + H)) ∧ Hid (negB m6 = b6) ∧ IsNat wr (.slice p6 l6 K6) m6.natAbs ∧ Hid (DyF m6 e6 (x * v) (L + L) (H + H)) ∧ Hid (negB m7 = b7) ∧ IsNat wr (.slice p7 l7 K7) m7.natAbs ∧ Hid (DyF m7 e7 (y * u) (L + L) (H + H)) ∧ St w wr [(w.heap.size, 29, [.bool b1, .slice p1 l1 K1, .int .i64 e1, .bool b2, .slice p2 l2 K2, .int .i64 e2]), (w.heap.size + 1, 29, [.bool b3, .slice p3 l3 K3, .int .i64 e3, .bool b4, .slice p4 l4 K4, .int .i64 e4]), (w.heap.size + 1 + 1, 29, [.bool false, .slice none 0 0, .int .i64 0, .bool false, .slice none 0 0, .int .i64 0]), (w.heap.size + 1 + 1 + 1, 84, [.bool b5, .slice p5 l5 K5, .int .i64 e5, .bool b6, .slice p6 l6 K6, .int .i64 e6, .bool b7, .slice p7 l7 K7, .int .i64 e7, .bool false, .slice none 0 0, .int .i64 0]), (g10, 27, [.bool b2, .slice p2 l2 K2, .int .i64 e2])]) ∨ (si = .int .i64 2 ∧ IsNat wr (.slice p1 l1 K1) m1.natAbs ∧ IsNat wr (.slice p2 l2 K2) m2.natAbs ∧ IsNat wr (.slice p3 l3 K3) m3.natAbs ∧ IsNat wr (.slice p4 l4 K4) m4.natAbs ∧ ∃ b5 p5 l5 K5 m5 e5 b6 p6 l6 K6 m6 e6 b7 p7 l7 K7 m7 e7 b8 p8 l8 K8 m8 e8, Hid (negB m5 = b5) ∧ IsNat wr (.slice p5 l5 K5) m5.natAbs ∧ Hid (DyF m5 e5 (x * u) (L + L) (H + H)) ∧ Hid (negB m6 = b6) ∧ IsNat wr (.slice p6 l6 K6) m6.natAbs ∧ Hid (DyF m6 e6 (x * v) (L + L) (H + H)) ∧ Hid (negB m7 = b7) ∧ IsNat wr (.slice p7 l7 K7) m7.natAbs ∧ Hid (DyF m7 e7 (y * u) (L + L) (H + H)) ∧ Hid (negB m8 = b8) ∧ IsNat wr (.slice p8 l8 K8) m8.natAbs ∧ Hid (DyF m8 e8 (y * v) (L + L) (H + H)) ∧ St w wr [(w.heap.size, 29, [.bool b1, .slice p1 l1 K1, .int .i64 e1, .bool b2, .slice p2 l2 K2, .int .i64 e2]), (w.heap.size + 1, 29, [.bool b3, .slice p3 l3 K3, .int .i64 e3, .bool b4, .slice p4 l4 K4, .int .i64 e4]), (w.heap.size + 1 + 1, 29, [.bool false, .slice none 0 0, .int .i64 0, .bool false, .slice none 0 0, .int .i64 0]), (w.heap.size + 1 + 1 + 1, 84, [.bool b5, .slice p5 l5 K5, .int .i64 e5, .bool b6, .slice p6 l6 K6, .int .i64 e6, .bool b7, .slice p7 l7 K7, .int .i64 e7, .bool b8, .slice p8 l8 K8, .int .i64 e8]), (g10, 27, [.bool b2, .slice p2 l2 K2, .int .i64 e2])])) (fun si _ => 2 - (intOf si).toNat)
      case atStart => exact .inl ⟨rfl, n1, n2, n3, n4, b5, p5, l5, K5, m5, e5, b6, p6, l6, K6, m6, e6, h5, n5, d5, h6, n6, d6, S⟩
      case round =>
        clear n1 n2 n3 n4 n5 n6 S
        rcases hrel with ⟨rfl, n1, n2, n3, n4, b5, p5, l5, K5, m5, e5, b6, p6, l6, K6, m6, e6, h5, n5, d5, h6, n6, d6, S⟩ | ⟨rfl, n1, n2, n3, n4, b5, p5, l5, K5, m5, e5, b6, p6, l6, K6, m6, e6, b7, p7, l7, K7, m7, e7, h5, n5, d5, h6, n6, d6, h7, n7, d7, S⟩ | ⟨rfl, n1, n2, n3, n4, b5, p5, l5, K5, m5, e5, b6, p6, l6, K6, m6, e6, b7, p7, l7, K7, m7, e7, b8, p8, l8, K8, m8, e8, h5, n5, d5, h6, n6, d6, h7, n7, d7, h8, n8, d8, S⟩
        ·
          have H := S.hnew 27 [.bool b3, .slice p3 l3 K3, .int .i64 e3]
          replace S := S.alloc 27 [.bool b3, .slice p3 l3 K3, .int .i64 e3] (wr.heap.size)
          try simp only [List.cons_append, List.nil_append] at S
          replace n1 := n1.hold H; replace n2 := n2.hold H; replace n3 := n3.hold H; replace n4 := n4.hold H; replace n5 := n5.hold H; replace n6 := n6.hold H
          clear H; obtain ⟨c3_0, c3_1, c3_2, c3_3, c3_4, c3_5⟩ := S.c6 3 rfl; have c3_6 := S.c 3 6 rfl rfl; have c3_7 := S.c 3 7 rfl rfl; have c3_8 := S.c 3 8 rfl rfl; have c3_9 := S.c 3 9 rfl rfl; have c3_10 := S.c 3 10 rfl rfl; have c3_11 := S.c 3 11 rfl rfl; obtain ⟨c4_0, c4_1, c4_2⟩ := S.c3 4 rfl; obtain ⟨c5_0, c5_1, c5_2⟩ := S.c3 5 rfl; go_wp2_with fail; clear c3_0 c3_1 c3_2 c3_3 c3_4 c3_5 c3_6 c3_7 c3_8 c3_9 c3_10 c3_11 c4_0 c4_1 c4_2 c5_0 c5_1 c5_2
          refine (S.call (dmul_any (HK.out.2.2.2.1.below S.below) ⟨b2, p2, l2, K2, m2, e2, rfl, h2, n2, d2⟩ ⟨b3, p3, l3, K3, m3, e3, rfl, h3, n3, d3⟩ HK.out.1 (y * u) rfl)).mono ?_
          clear S
          rintro e w41 ⟨⟨_, rfl, b7, p7, l7, K7, m7, e7, rfl, h7, n7, d7⟩, S, H⟩
          replace n1 := n1.hold H; replace n2 := n2.hold H; replace n3 := n3.hold H; replace n4 := n4.hold H; replace n5 := n5.hold H; replace n6 := n6.hold H
          clear H; obtain ⟨c3_0, c3_1, c3_2, c3_3, c3_4, c3_5⟩ := S.c6 3 rfl; have c3_6 := S.c 3 6 rfl rfl; have c3_7 := S.c 3 7 rfl rfl; have c3_8 := S.c 3 8 rfl rfl; have c3_9 := S.c 3 9 rfl rfl; have c3_10 := S.c 3 10 rfl rfl; have c3_11 := S.c 3 11 rfl rfl; obtain ⟨c4_0, c4_1, c4_2⟩ := S.c3 4 rfl; obtain ⟨c5_0, c5_1, c5_2⟩ := S.c3 5 rfl; clear c3_0 c3_1 c3_2 c3_3 c3_4 c3_5 c3_6 c3_7 c3_8 c3_9 c3_10 c3_11 c4_0 c4_1 c4_2 c5_0 c5_1 c5_2; obtain ⟨c3_0, c3_1, c3_2, c3_3, c3_4, c3_5⟩ := S.c6 3 rfl; have c3_6 := S.c 3 6 rfl rfl; have c3_7 := S.c 3 7 rfl rfl; have c3_8 := S.c 3 8 rfl rfl; have c3_9 := S.c 3 9 rfl rfl; have c3_10 := S.c 3 10 rfl rfl; have c3_11 := S.c 3 11 rfl rfl; have f3_6 := S.f 3 6 rfl
          have H := S.hset 3 6 (.bool b7) rfl rfl (by intro q n e; cases e)
          replace S := S.set 3 6 (.bool b7) rfl
          replace n1 := n1.hold H; replace n2 := n2.hold H; replace n3 := n3.hold H; replace n4 := n4.hold H; replace n5 := n5.hold H; replace n6 := n6.hold H; replace n7 := n7.hold H
          clear H; have f3_7 := S.f 3 7 rfl
          have H := S.hset 3 7 (.slice p7 l7 K7) rfl rfl (by intro q n e; cases e)
          replace S := S.set 3 7 (.slice p7 l7 K7) rfl
          replace n1 := n1.hold H; replace n2 := n2.hold H; replace n3 := n3.hold H; replace n4 := n4.hold H; replace n5 := n5.hold H; replace n6 := n6.hold H; replace n7 := n7.hold H
          clear H; have f3_8 := S.f 3 8 rfl
          have H := S.hset32 3 8 (.int .i64 e7) rfl rfl (by intro n e; cases e)
          replace S := S.set 3 8 (.int .i64 e7) rfl
          replace n1 := n1.hold32 H; replace n2 := n2.hold32 H; replace n3 := n3.hold32 H; replace n4 := n4.hold32 H; replace n5 := n5.hold32 H; replace n6 := n6.hold32 H; replace n7 := n7.hold32 H; clear H; go_wp2_with fail
          replace S := S.take 5 (L := [(w.heap.size, 29, [.bool b1, .slice p1 l1 K1, .int .i64 e1, .bool b2, .slice p2 l2 K2, .int .i64 e2]), (w.heap.size + 1, 29, [.bool b3, .slice p3 l3 K3, .int .i64 e3, .bool b4, .slice p4 l4 K4, .int .i64 e4]), (w.heap.size + 1 + 1, 29, [.bool false, .slice none 0 0, .int .i64 0, .bool false, .slice none 0 0, .int .i64 0]), (w.heap.size + 1 + 1 + 1, 84, [.bool b5, .slice p5 l5 K5, .int .i64 e5, .bool b6, .slice p6 l6 K6, .int .i64 e6, .bool b7, .slice p7 l7 K7, .int .i64 e7, .bool false, .slice none 0 0, .int .i64 0]), (g10, 27, [.bool b2, .slice p2 l2 K2, .int .i64 e2])]) rfl
          go_roundw
          case rel => exact .inr (.inl ⟨rfl, n1, n2, n3, n4, b5, p5, l5, K5, m5, e5, b6, p6, l6, K6, m6, e6, b7, p7, l7, K7, m7, e7, h5, n5, d5, h6, n6, d6, h7, n7, d7, S⟩)
          case measure => simp [intOf]
        ·
          have H := S.hnew 27 [.bool b4, .slice p4 l4 K4, .int .i64 e4]
          replace S := S.alloc 27 [.bool b4, .slice p4 l4 K4, .int .i64 e4] (wr.heap.size)
          try simp only [List.cons_append, List.nil_append] at S
          replace n1 := n1.hold H; replace n2 := n2.hold H; replace n3 := n3.hold H; replace n4 := n4.hold H; replace n5 := n5.hold H; replace n6 := n6.hold H; replace n7 := n7.hold H
          clear H; obtain ⟨c3_0, c3_1, c3_2, c3_3, c3_4, c3_5⟩ := S.c6 3 rfl; have c3_6 := S.c 3 6 rfl rfl; have c3_7 := S.c 3 7 rfl rfl; have c3_8 := S.c 3 8 rfl rfl; have c3_9 := S.c 3 9 rfl rfl; have c3_10 := S.c 3 10 rfl rfl; have c3_11 := S.c 3 11 rfl rfl; obtain ⟨c4_0, c4_1, c4_2⟩ := S.c3 4 rfl; obtain ⟨c5_0, c5_1, c5_2⟩ := S.c3 5 rfl; go_wp2_with fail; clear c3_0 c3_1 c3_2 c3_3 c3_4 c3_5 c3_6 c3_7 c3_8 c3_9 c3_10 c3_11 c4_0 c4_1 c4_2 c5_0 c5_1 c5_2
          refine (S.call (dmul_any (HK.out.2.2.2.1.below S.below) ⟨b2, p2, l2, K2, m2, e2, rfl, h2, n2, d2⟩ ⟨b4, p4, l4, K4, m4, e4, rfl, h4, n4, d4⟩ HK.out.1 (y * v) rfl)).mono ?_
          clear S
          rintro e w41 ⟨⟨_, rfl, b8, p8, l8, K8, m8, e8, rfl, h8, n8, d8⟩, S, H⟩
          replace n1 := n1.hold H; replace n2 := n2.hold H; replace n3 := n3.hold H; replace n4 := n4.hold H; replace n5 := n5.hold H; replace n6 := n6.hold H; replace n7 := n7.hold H
          clear H; obtain ⟨c3_0, c3_1, c3_2, c3_3, c3_4, c3_5⟩ := S.c6 3 rfl; have c3_6 := S.c 3 6 rfl rfl; have c3_7 := S.c 3 7 rfl rfl; have c3_8 := S.c 3 8 rfl rfl; have c3_9 := S.c 3 9 rfl rfl; have c3_10 := S.c 3 10 rfl rfl; have c3_11 := S.c 3 11 rfl rfl; obtain ⟨c4_0, c4_1, c4_2⟩ := S.c3 4 rfl; obtain ⟨c5_0, c5_1, c5_2⟩ := S.c3 5 rfl; clear c3_0 c3_1 c3_2 c3_3 c3_4 c3_5 c3_6 c3_7 c3_8 c3_9 c3_10 c3_11 c4_0 c4_1 c4_2 c5_0 c5_1 c5_2; obtain ⟨c3_0, c3_1, c3_2, c3_3, c3_4, c3_5⟩ := S.c6 3 rfl; have c3_6 := S.c 3 6 rfl rfl; have c3_7 := S.c 3 7 rfl rfl; have c3_8 := S.c 3 8 rfl rfl; have c3_9 := S.c 3 9 rfl rfl; have c3_10 := S.c 3 10 rfl rfl; have c3_11 := S.c 3 11 rfl rfl; have f3_9 := S.f 3 9 rfl
          have H := S.hset 3 9 (.bool b8) rfl rfl (by intro q n e; cases e)
          replace S := S.set 3 9 (.bool b8) rfl
          replace n1 := n1.hold H; replace n2 := n2.hold H; replace n3 := n3.hold H; replace n4 := n4.hold H; replace n5 := n5.hold H; replace n6 := n6.hold H; replace n7 := n7.hold H; replace n8 := n8.hold H
          clear H; have f3_10 := S.f 3 10 rfl
          have H := S.hset 3 10 (.slice p8 l8 K8) rfl rfl (by intro q n e; cases e)
          replace S := S.set 3 10 (.slice p8 l8 K8) rfl
          replace n1 := n1.hold H; replace n2 := n2.hold H; replace n3 := n3.hold H; replace n4 := n4.hold H; replace n5 := n5.hold H; replace n6 := n6.hold H; replace n7 := n7.hold H; replace n8 := n8.hold H
          clear H; have f3_11 := S.f 3 11 rfl
          have H := S.hset32 3 11 (.int .i64 e8) rfl rfl (by intro n e; cases e)
          replace S := S.set 3 11 (.int .i64 e8) rfl
          replace n1 := n1.hold32 H; replace n2 := n2.hold32 H; replace n3 := n3.hold32 H; replace n4 := n4.hold32 H; replace n5 := n5.hold32 H; replace n6 := n6.hold32 H; replace n7 := n7.hold32 H; replace n8 := n8.hold32 H; clear H; go_wp2_with fail
          replace S := S.take 5 (L := [(w.heap.size, 29, [.bool b1, .slice p1 l1 K1, .int .i64 e1, .bool b2, .slice p2 l2 K2, .int .i64 e2]), (w.heap.size + 1, 29, [.bool b3, .slice p3 l3 K3, .int .i64 e3, .bool b4, .slice p4 l4 K4, .int .i64 e4]), (w.heap.size + 1 + 1, 29, [.bool false, .slice none 0 0, .int .i64 0, .bool false, .slice none 0 0, .int .i64 0]), (w.heap.size + 1 + 1 + 1, 84, [.bool b5, .slice p5 l5 K5, .int .i64 e5, .bool b6, .slice p6 l6 K6, .int .i64 e6, .bool b7, .slice p7 l7 K7, .int .i64 e7, .bool b8, .slice p8 l8 K8, .int .i64 e8]), (g10, 27, [.bool b2, .slice p2 l2 K2, .int .i64 e2])]) rfl
          go_roundw
          case rel => exact .inr (.inr ⟨rfl, n1, n2, n3, n4, b5, p5, l5, K5, m5, e5, b6, p6, l6, K6, m6, e6, b7, p7, l7, K7, m7, e7, b8, p8, l8, K8, m8, e8, h5, n5, d5, h6, n6, d6, h7, n7, d7, h8, n8, d8, S⟩)
          case measure => simp [intOf]
        ·
          go_wp2_with fail
          replace S := S.take 4 (L := [(w.heap.size, 29, [.bool b1, .slice p1 l1 K1, .int .i64 e1, .bool b2, .slice p2 l2 K2, .int .i64 e2]), (w.heap.size + 1, 29, [.bool b3, .slice p3 l3 K3, .int .i64 e3, .bool b4, .slice p4 l4 K4, .int .i64 e4]), (w.heap.size + 1 + 1, 29, [.bool false, .slice none 0 0, .int .i64 0, .bool false, .slice none 0 0, .int .i64 0]), (w.heap.size + 1 + 1 + 1, 84, [.bool b5, .slice p5 l5 K5, .int .i64 e5, .bool b6, .slice p6 l6 K6, .int .i64 e6, .bool b7, .slice p7 l7 K7, .int .i64 e7, .bool b8, .slice p8 l8 K8, .int .i64 e8])]) rfl
          go_roundw
          case rel => exact .inr (.inr ⟨rfl, n1, n2, n3, n4, b5, p5, l5, K5, m5, e5, b6, p6, l6, K6, m6, e6, b7, p7, l7, K7, m7, e7, b8, p8, l8, K8, m8, e8, h5, n5, d5, h6, n6, d6, h7, n7, d7, h8, n8, d8, S⟩)
          case measure => simp [intOf]
    ·
      obtain ⟨c3_0, c3_1, c3_2, c3_3, c3_4, c3_5⟩ := S.c6 3 rfl; have c3_6 := S.c 3 6 rfl rfl; have c3_7 := S.c 3 7 rfl rfl; have c3_8 := S.c 3 8 rfl rfl; have c3_9 := S.c 3 9 rfl rfl; have c3_10 := S.c 3 10 rfl rfl; have c3_11 := S.c 3 11 rfl rfl
      go_upto_region 14 with fail
      clear c3_0 c3_1 c3_2 c3_3 c3_4 c3_5 c3_6 c3_7 c3_8 c3_9 c3_10 c3_11
      go_cut [14, 15] (fun s14 s15 wx => ∃ g14 g15, s14 = .pointer (some ⟨g14, 0, none⟩) ∧ s15 = .pointer (some ⟨g15, 0, none⟩) ∧ Su w wx [(w.heap.size, 29, [.bool b1, .slice p1 l1 K1, .int .i64 e1, .bool b2, .slice p2 l2 K2, .int .i64 e2]), (w.heap.size + 1, 29, [.bool b3, .slice p3 l3 K3, .int .i64 e3, .bool b4, .slice p4 l4 K4, .int .i64 e4]), (w.heap.size + 1 + 1, 29, [.bool false, .slice none 0 0, .int .i64 0, .bool false, .slice none 0 0, .int .i64 0]), (w.heap.size + 1 + 1 + 1, 84, [.bool b5, .slice p5 l5 K5, .int .i64 e5, .bool b6, .slice p6 l6 K6, .int .i64 e6, .bool b7, .slice p7 l7 K7, .int .i64 e7, .bool b8, .slice p8 l8 K8, .int .i64 e8]), (g14, 27, [.bool b5, .slice p5 l5 K5, .int .i64 e5]), (g15, 27, [.bool b5, .slice p5 l5 K5, .int .i64 e5])] ∧ Hold32 wr wx)
      case first =>
        have HH := (Hold.drew wr).to32
        replace n1 := n1.hold32 HH; replace n2 := n2.hold32 HH; replace n3 := n3.hold32 HH; replace n4 := n4.hold32 HH; replace n5 := n5.hold32 HH; replace n6 := n6.hold32 HH; replace n7 := n7.hold32 HH; replace n8 := n8.hold32 HH
        replace S := S.drew
        refine wp_region_held_drew (S := fun W => W.cell? ⟨w.heap.size + 1 + 1 + 1, 0, none⟩ = some (.bool b5) ∧ W.cell? ⟨w.heap.size + 1 + 1 + 1, 1, none⟩ = some (.slice p5 l5 K5) ∧ W.cell? ⟨w.heap.size + 1 + 1 + 1, 2, none⟩ = some (.int .i64 e5)) (by kernel_rfl) (S.c3 3 rfl) (fun hS => ?_)
        generalize wr.drew = w21 at S n1 n2 n3 n4 n5 n6 n7 n8 HH hS ⊢
        refine takeOp (i := 0) (v := ?_) (opOf rfl) (by kernel_rfl) (fun _ _ _ h => h) rfl (fun W hW => ?_) hS ?_
        rotate_left
        · obtain ⟨hW0, hW1, hW2⟩ := hW; go_simp; try first | rfl | kernel_rfl
        try simp only [Act.put, List.setIfInBounds_toArray, List.set_cons_zero, List.set_cons_succ]
        refine takeOp (i := 1) (v := ?_) (opOf rfl) (by kernel_rfl) (fun _ _ _ h => h) rfl (fun W hW => ?_) hS ?_
        rotate_left
        · obtain ⟨hW0, hW1, hW2⟩ := hW; go_simp; try first | rfl | kernel_rfl
        try simp only [Act.put, List.setIfInBounds_toArray, List.set_cons_zero, List.set_cons_succ]
        refine takeOp (i := 2) (v := ?_) (opOf rfl) (by kernel_rfl) (fun _ _ _ h => h) rfl (fun W hW => ?_) hS ?_
        rotate_left
        · obtain ⟨hW0, hW1, hW2⟩ := hW; go_simp; try first | rfl | kernel_rfl
        try simp only [Act.put, List.setIfInBounds_toArray, List.set_cons_zero, List.set_cons_succ]
        refine takeOp (i := 3) (v := ?_) (opOf rfl) (by kernel_rfl) (fun _ _ _ h => h) rfl (fun W hW => ?_) hS ?_
        rotate_left
        · obtain ⟨hW0, hW1, hW2⟩ := hW; go_simp; try first | rfl | kernel_rfl
        try simp only [Act.put, List.setIfInBounds_toArray, List.set_cons_zero, List.set_cons_succ]
        refine wpAnyH_ready (rs := [4, 5]) (by kernel_rfl) (by simp) (AllReadyH.cons (opOf rfl) (fun KK hKK => ?_) (AllReadyH.cons (opOf rfl) (fun KK hKK => ?_) AllReadyH.nil))
        ·
          go_simp; clear hS
          have H := S.hnew 27 [.bool false, .slice none 0 0, .int .i64 0]
          replace S := S.alloc 27 [.bool false, .slice none 0 0, .int .i64 0] (w21.heap.size)
          try simp only [List.cons_append, List.nil_append] at S
          replace n1 := n1.hold H; replace n2 := n2.hold H; replace n3 := n3.hold H; replace n4 := n4.hold H; replace n5 := n5.hold H; replace n6 := n6.hold H; replace n7 := n7.hold H; replace n8 := n8.hold H; replace HH := HH.trans H.to32; clear H
          refine hKK.out _ _ (S.c3 3 rfl) (fun hS => ?_)
          generalize (w21.alloc (.cells #[.bool false, .slice none 0 0, .int .i64 0] 27)) = w22 at S n1 n2 n3 n4 n5 n6 n7 n8 HH hS ⊢
          clear hKK KK
          try simp only [Act.put, List.setIfInBounds_toArray, List.set_cons_zero, List.set_cons_succ]
          refine rdyOp (i := 5) (by kernel_rfl) (opOf rfl) (fun KK hKK => ?_)
          go_simp; clear hS
          have H := S.hnew 27 [.bool false, .slice none 0 0, .int .i64 0]
          replace S := S.alloc 27 [.bool false, .slice none 0 0, .int .i64 0] (w22.heap.size)
          try simp only [List.cons_append, List.nil_append] at S
          replace n1 := n1.hold H; replace n2 := n2.hold H; replace n3 := n3.hold H; replace n4 := n4.hold H; replace n5 := n5.hold H; replace n6 := n6.hold H; replace n7 := n7.hold H; replace n8 := n8.hold H; replace HH := HH.trans H.to32; clear H
          refine hKK.out _ _ (S.c3 3 rfl) (fun hS => ?_)
          generalize (w22.alloc (.cells #[.bool false, .slice none 0 0, .int .i64 0] 27)) = w23 at S n1 n2 n3 n4 n5 n6 n7 n8 HH hS ⊢
          clear hKK KK
          try simp only [Act.put, List.setIfInBounds_toArray, List.set_cons_zero, List.set_cons_succ]
          refine rdyOp (i := 6) (by kernel_rfl) (opOf rfl) (fun KK hKK => ?_)
          obtain ⟨c0, c1, c2⟩ := S.c3 4 rfl; obtain ⟨f0, f1, f2⟩ := S.f3 4 rfl
          go_simp; clear hS c0 f0 c1 f1 c2 f2
          have HP := S.put3 4 (.bool b5) (.slice p5 l5 K5) (.int .i64 e5) rfl rfl; have H := HP.2; replace S := HP.1; clear HP
          replace n1 := n1.hold32 H; replace n2 := n2.hold32 H; replace n3 := n3.hold32 H; replace n4 := n4.hold32 H; replace n5 := n5.hold32 H; replace n6 := n6.hold32 H; replace n7 := n7.hold32 H; replace n8 := n8.hold32 H; replace HH := HH.trans H; clear H
          refine hKK.out _ _ (S.c3 3 rfl) (fun hS => ?_)
          generalize (((w23.setCell ⟨w21.heap.size, 0, none⟩ (.bool b5)).setCell ⟨w21.heap.size, 1, none⟩ (.slice p5 l5 K5)).setCell ⟨w21.heap.size, 2, none⟩ (.int .i64 e5)) = w24 at S n1 n2 n3 n4 n5 n6 n7 n8 HH hS ⊢
          clear hKK KK
          try simp only [Act.put, List.setIfInBounds_toArray, List.set_cons_zero, List.set_cons_succ]
          refine rdyOp (i := 7) (by kernel_rfl) (opOf rfl) (fun KK hKK => ?_)
          obtain ⟨c0, c1, c2⟩ := S.c3 5 rfl; obtain ⟨f0, f1, f2⟩ := S.f3 5 rfl
          go_simp; clear hS c0 f0 c1 f1 c2 f2
          have HP := S.put3 5 (.bool b5) (.slice p5 l5 K5) (.int .i64 e5) rfl rfl; have H := HP.2; replace S := HP.1; clear HP
          replace n1 := n1.hold32 H; replace n2 := n2.hold32 H; replace n3 := n3.hold32 H; replace n4 := n4.hold32 H; replace n5 := n5.hold32 H; replace n6 := n6.hold32 H; replace n7 := n7.hold32 H; replace n8 := n8.hold32 H; replace HH := HH.trans H; clear H
          refine hKK.out _ _ (S.c3 3 rfl) (fun hS => ?_)
          generalize (((w24.setCell ⟨w22.heap.size, 0, none⟩ (.bool b5)).setCell ⟨w22.heap.size, 1, none⟩ (.slice p5 l5 K5)).setCell ⟨w22.heap.size, 2, none⟩ (.int .i64 e5)) = w25 at S n1 n2 n3 n4 n5 n6 n7 n8 HH hS ⊢
          clear hKK KK
          try simp only [Act.put, List.setIfInBounds_toArray, List.set_cons_zero, List.set_cons_succ]
          refine wpAnyH_done (by kernel_rfl) ?_ _
          go_wp2_with fail
          go_meet
          case rel => exact ⟨w21.heap.size, w22.heap.size, rfl, rfl, Su.of S [0, 1, 2, 3, 4, 5] rfl, HH⟩
        ·
          go_simp; clear hS
          have H := S.hnew 27 [.bool false, .slice none 0 0, .int .i64 0]
          replace S := S.alloc 27 [.bool false, .slice none 0 0, .int .i64 0] (w21.heap.size)
          try simp only [List.cons_append, List.nil_append] at S
          replace n1 := n1.hold H; replace n2 := n2.hold H; replace n3 := n3.hold H; replace n4 := n4.hold H; replace n5 := n5.hold H; replace n6 := n6.hold H; replace n7 := n7.hold H; replace n8 := n8.hold H; replace HH := HH.trans H.to32; clear H
          refine hKK.out _ _ (S.c3 3 rfl) (fun hS => ?_)
          generalize (w21.alloc (.cells #[.bool false, .slice none 0 0, .int .i64 0] 27)) = w26 at S n1 n2 n3 n4 n5 n6 n7 n8 HH hS ⊢
          clear hKK KK
          try simp only [Act.put, List.setIfInBounds_toArray, List.set_cons_zero, List.set_cons_succ]
          refine rdyOp (i := 4) (by kernel_rfl) (opOf rfl) (fun KK hKK => ?_)
          go_simp; clear hS
          have H := S.hnew 27 [.bool false, .slice none 0 0, .int .i64 0]
          replace S := S.alloc 27 [.bool false, .slice none 0 0, .int .i64 0] (w26.heap.size)
          try simp only [List.cons_append, List.nil_append] at S
          replace n1 := n1.hold H; replace n2 := n2.hold H; replace n3 := n3.hold H; replace n4 := n4.hold H; replace n5 := n5.hold H; replace n6 := n6.hold H; replace n7 := n7.hold H; replace n8 := n8.hold H; replace HH := HH.trans H.to32; clear H
          refine hKK.out _ _ (S.c3 3 rfl) (fun hS => ?_)
          generalize (w26.alloc (.cells #[.bool false, .slice none 0 0, .int .i64 0] 27)) = w27 at S n1 n2 n3 n4 n5 n6 n7 n8 HH hS ⊢
          clear hKK KK
          try simp only [Act.put, List.setIfInBounds_toArray, List.set_cons_zero, List.set_cons_succ]
          refine rdyOp (i := 6) (by kernel_rfl) (opOf rfl) (fun KK hKK => ?_)
          obtain ⟨c0, c1, c2⟩ := S.c3 5 rfl; obtain ⟨f0, f1, f2⟩ := S.f3 5 rfl
          go_simp; clear hS c0 f0 c1 f1 c2 f2
          have HP := S.put3 5 (.bool b5) (.slice p5 l5 K5) (.int .i64 e5) rfl rfl; have H := HP.2; replace S := HP.1; clear HP
          replace n1 := n1.hold32 H; replace n2 := n2.hold32 H; replace n3 := n3.hold32 H; replace n4 := n4.hold32 H; replace n5 := n5.hold32 H; replace n6 := n6.hold32 H; replace n7 := n7.hold32 H; replace n8 := n8.hold32 H; replace HH := HH.trans H; clear H
          refine hKK.out _ _ (S.c3 3 rfl) (fun hS => ?_)
          generalize (((w27.setCell ⟨w26.heap.size, 0, none⟩ (.bool b5)).setCell ⟨w26.heap.size, 1, none⟩ (.slice p5 l5 K5)).setCell ⟨w26.heap.size, 2, none⟩ (.int .i64 e5)) = w28 at S n1 n2 n3 n4 n5 n6 n7 n8 HH hS ⊢
          clear hKK KK
          try simp only [Act.put, List.setIfInBounds_toArray, List.set_cons_zero, List.set_cons_succ]
          refine rdyOp (i := 7) (by kernel_rfl) (opOf rfl) (fun KK hKK => ?_)
          obtain ⟨c0, c1, c2⟩ := S.c3 4 rfl; obtain ⟨f0, f1, f2⟩ := S.f3 4 rfl
          go_simp; clear hS c0 f0 c1 f1 c2 f2
          have HP := S.put3 4 (.bool b5) (.slice p5 l5 K5) (.int .i64 e5) rfl rfl; have H := HP.2; replace S := HP.1; clear HP
          replace n1 := n1.hold32 H; replace n2 := n2.hold32 H; replace n3 := n3.hold32 H; replace n4 := n4.hold32 H; replace n5 := n5.hold32 H; replace n6 := n6.hold32 H; replace n7 := n7.hold32 H; replace n8 := n8.hold32 H; replace HH := HH.trans H; clear H
          refine hKK.out _ _ (S.c3 3 rfl) (fun hS => ?_)
          generalize (((w28.setCell ⟨w21.heap.size, 0, none⟩ (.bool b5)).setCell ⟨w21.heap.size, 1, none⟩ (.slice p5 l5 K5)).setCell ⟨w21.heap.size, 2, none⟩ (.int .i64 e5)) = w29 at S n1 n2 n3 n4 n5 n6 n7 n8 HH hS ⊢
          clear hKK KK
          try simp only [Act.put, List.setIfInBounds_toArray, List.set_cons_zero, List.set_cons_succ]
          refine wpAnyH_done (by kernel_rfl) ?_ _
          go_wp2_with fail
          go_meet
          case rel => exact ⟨w26.heap.size, w21.heap.size, rfl, rfl, Su.of S [0, 1, 2, 3, 5, 4] rfl, HH⟩
      case rest =>
        obtain ⟨g14, g15, rfl, rfl, S, HH⟩ := hcut
        obtain ⟨w30, rfl⟩ : ∃ W : World, W = wc := ⟨_, rfl⟩
        replace n1 := n1.hold32 HH; replace n2 := n2.hold32 HH; replace n3 := n3.hold32 HH; replace n4 := n4.hold32 HH; replace n5 := n5.hold32 HH; replace n6 := n6.hold32 HH; replace n7 := n7.hold32 HH; replace n8 := n8.hold32 HH; clear HH; go_wp2_with fail; clear n1 n2 n3 n4
        go_loopw [53] (fun si wr => (si = .int .i64 0 ∧ IsNat wr (.slice p5 l5 K5) m5.natAbs ∧ IsNat wr (.slice p6 l6 K6) m6.natAbs ∧ IsNat wr (.slice p7 l7 K7) m7.natAbs ∧ IsNat wr (.slice p8 l8 K8) m8.natAbs ∧ ∃ b9 p9 l9 K9 m9 e9 b10 p10 l10 K10 m10 e10, Hid (negB m9 = b9) ∧ IsNat wr (.slice p9 l9 K9) m9.natAbs ∧ Hid (DyF m9 e9 (x * u) (L + L) (H + H)) ∧ Hid (negB m10 = b10) ∧ IsNat wr (.slice p10 l10 K10) m10.natAbs ∧ Hid (DyF m10 e10 (x * u) (L + L) (H + H)) ∧ Su w wr [(w.heap.size, 29, [.bool b1, .slice p1 l1 K1, .int .i64 e1, .bool b2, .slice p2 l2 K2, .int .i64 e2]), (w.heap.size + 1, 29, [.bool b3, .slice p3 l3 K3, .int .i64 e3, .bool b4, .slice p4 l4 K4, .int .i64 e4]), (w.heap.size + 1 + 1, 29, [.bool false, .slice none 0 0, .int .i64 0, .bool false, .slice none 0 0, .int .i64 0]), (w.heap.size + 1 + 1 + 1, 84, [.bool b5, .slice p5 l5 K5, .int .i64 e5, .bool b6, .slice p6 l6 K6, .int .i64 e6, .bool b7, .slice p7 l7 K7, .int .i64 e7, .bool b8, .slice p8 l8 K8, .int .i64 e8]), (g14, 27, [.bool b9, .slice p9 l9 K9, .int .i64 e9]), (g15, 27, [.bool b10, .slice p10 l10 K10, .int .i64 e10])]) ∨ (si = .int .i64 1 ∧ IsNat wr (.slice p5 l5 K5) m5.natAbs ∧ IsNat wr (.slice p6 l6 K6) m6.natAbs ∧ IsNat wr (.slice p7 l7 K7) m7.natAbs ∧ IsNat wr (.slice p8 l8 K8) m8.natAbs ∧ ∃ b9 p9 l9 K9 m9 e9 b10 p10 l10 K10 m10 e10, Hid (negB m9 = b9) ∧ IsNat wr (.slice p9 l9 K9) m9.natAbs ∧ Hid (DyF m9 e9 (min2 (x * u) (x * v)) (L + L) (H + H)) ∧ Hid (negB m10 = b10) ∧ IsNat wr (.slice p10 l10 K10) m10.natAbs ∧ Hid (DyF m10 e10 (max2 (x * u) (x * v)) (L + L) (H + H)) ∧ Su w wr [(w.heap.size, 29, [.bool b1, .slice p1 l1 K1, .int .i64 e1, .bool b2, .slice p2 l2 K2, .int .i64 e2]), (w.heap.size + 1, 29, [.bool b3, .slice p3 l3 K3, .int .i64 e3, .bool b4, .slice p4 l4 K4, .int .i64 e4]), (w.heap.size + 1 + 1, 29, [.bool false, .slice none 0 0, .int .i64 0, .bool false, .slice none 0 0, .int .i64 0]), (w.heap.size + 1 + 1 + 1, 84, [.bool b5, .slice p5 l5 K5, .int .i64 e5, .bool b6, .slice p6 l6 K6, .int .i64 e6, .bool b7, .slice p7 l7 K7, .int .i64 e7, .bool b8, .slice p8 l8 K8, .int .i64 e8]), (g14, 27, [.bool b9, .slice p9 l9 K9, .int .i64 e9]), (g15, 27, [.bool b10, .slice p10 l10 K10, .int .i64 e10])]) ∨ (si = .int .i64 2 ∧ IsNat wr (.slice p5 l5 K5) m5.natAbs ∧ IsNat wr (.slice p6 l6 K6) m6.natAbs ∧ IsNat wr (.slice p7 l7 K7) m7.natAbs ∧ IsNat wr (.slice p8 l8 K8) m8.natAbs ∧ ∃ b9 p9 l9 K9 m9 e9 b10 p10 l10 K10 m10 e10, Hid (negB m9 = b9) ∧ IsNat wr (.slice p9 l9 K9) m9.natAbs ∧ Hid (DyF m9 e9 (min2 (min2 (x * u) (x * v)) (y * u)) (L + L) (H + H)) ∧ Hid (negB m10 = b10) ∧ IsNat wr (.slice p10 l10 K10) m10.natAbs ∧ Hid (DyF m10 e10 (max2 (max2 (x * u) (x * v)) (y * u)) (L + L) (H + H)) ∧ Su w wr [(w.heap.size, 29, [.bool b1, .slice p1 l1 K1, .int .i64 e1, .bool b2, .slice p2 l2 K2, .int .i64 e2]), (w.heap.size + 1, 29, [.bool b3, .slice p3 l3 K3, .int .i64 e3, .bool b4, .slice p4 l4 K4, .int .i64 e4]), (w.heap.size + 1 + 1, 29, [.bool false, .slice none 0 0, .int .i64 0, .bool false, .slice none 0 0, .int .i64 0]), (w.heap.size + 1 + 1 + 1, 84, [.bool b5, .slice p5 l5 K5, .int .i64 e5, .bool b6, .slice p6 l6 K6, .int .i64 e6, .bool b7, .slice p7 l7 K7, .int .i64 e7, .bool b8, .slice p8 l8 K8, .int .i64 e8]), (g14, 27, [.bool b9, .slice p9 l9 K9, .int .i64 e9]), (g15, 27, [.bool b10, .slice p10 l10 K10, .int .i64 e10])]) ∨ (si = .int .i64 3 ∧ IsNat wr (.slice p5 l5 K5) m5.natAbs ∧ IsNat wr (.slice p6 l6 K6) m6.natAbs ∧ IsNat wr (.slice p7 l7 K7) m7.natAbs ∧ IsNat wr (.slice p8 l8 K8) m8.natAbs ∧ ∃ b9 p9 l9 K9 m9 e9 b10 p10 l10 K10 m10 e10, Hid (negB m9 = b9) ∧ IsNat wr (.slice p9 l9 K9) m9.natAbs ∧ Hid (DyF m9 e9 (min2 (min2 (min2 (x * u) (x * v)) (y * u)) (y * v)) (L + L) (H + H)) ∧ Hid (negB m10 = b10) ∧ IsNat wr (.slice p10 l10 K10) m10.natAbs ∧ Hid (DyF m10 e10 (max2 (max2 (max2 (x * u) (x * v)) (y * u)) (y * v)) (L + L) (H + H)) ∧ Su w wr [(w.heap.size, 29, [.bool b1, .slice p1 l1 K1, .int .i64 e1, .bool b2, .slice p2 l2 K2, .int .i64 e2]), (w.heap.size + 1, 29, [.bool b3, .slice p3 l3 K3, .int .i64 e3, .bool b4, .slice p4 l4 K4, .int .i64 e4]), (w.heap.size + 1 + 1, 29, [.bool false, .slice none 0 0, .int .i64 0, .bool false, .slice none 0 0, .int .i64 0]), (w.heap.size + 1 + 1 + 1, 84, [.bool b5, .slice p5 l5 K5, .int .i64 e5, .bool b6, .slice p6 l6 K6, .int .i64 e6, .bool b7, .slice p7 l7 K7, .int .i64 e7, .bool b8, .slice p8 l8 K8, .int .i64 e8]), (g14, 27, [.bool b9, .slice p9 l9 K9, .int .i64 e9]), (g15, 27, [.bool b10, .slice p10 l10 K10, .int .i64 e10])])) (fun si _ => 3 - (intOf si).toNat)
        case atStart => exact .inl ⟨rfl, n5, n6, n7, n8, b5, p5, l5, K5, m5, e5, b5, p5, l5, K5, m5, e5, h5, n5, d5, h5, n5, d5, S⟩
        case round =>
          clear n5 n6 n7 n8 S
          rcases hrel with ⟨rfl, n5, n6, n7, n8, b9, p9, l9, K9, m9, e9, b10, p10, l10, K10, m10, e10, h9, n9, d9, h10, n10, d10, S⟩ | ⟨rfl, n5, n6, n7, n8, b9, p9, l9, K9, m9, e9, b10, p10, l10, K10, m10, e10, h9, n9, d9, h10, n10, d10, S⟩ | ⟨rfl, n5, n6, n7, n8, b9, p9, l9, K9, m9, e9, b10, p10, l10, K10, m10, e10, h9, n9, d9, h10, n10, d10, S⟩ | ⟨rfl, n5, n6, n7, n8, b9, p9, l9, K9, m9, e9, b10, p10, l10, K10, m10, e10, h9, n9, d9, h10, n10, d10, S⟩
          ·
            obtain ⟨c3_0, c3_1, c3_2, c3_3, c3_4, c3_5⟩ := S.c6 3 rfl; have c3_6 := S.c 3 6 rfl rfl; have c3_7 := S.c 3 7 rfl rfl; have c3_8 := S.c 3 8 rfl rfl; have c3_9 := S.c 3 9 rfl rfl; have c3_10 := S.c 3 10 rfl rfl; have c3_11 := S.c 3 11 rfl rfl
            have H := S.hnew 27 [.bool b6, .slice p6 l6 K6, .int .i64 e6]
            replace S := S.alloc 27 [.bool b6, .slice p6 l6 K6, .int .i64 e6] (wr.heap.size)
            try simp only [List.cons_append, List.nil_append] at S
            replace n5 := n5.hold H; replace n6 := n6.hold H; replace n7 := n7.hold H; replace n8 := n8.hold H; replace n9 := n9.hold H; replace n10 := n10.hold H
            clear H
            go_upto_region 18 with fail
            clear c3_0 c3_1 c3_2 c3_3 c3_4 c3_5 c3_6 c3_7 c3_8 c3_9 c3_10 c3_11
            generalize (wr.alloc (.cells #[.bool b6, .slice p6 l6 K6, .int .i64 e6] 27)) = w61 at S n5 n6 n7 n8 n9 n10 ⊢
            have HH := (Hold.drew w61).to32
            replace n5 := n5.hold32 HH; replace n6 := n6.hold32 HH; replace n7 := n7.hold32 HH; replace n8 := n8.hold32 HH; replace n9 := n9.hold32 HH; replace n10 := n10.hold32 HH
            replace S := S.drew
            refine wp_region_held_drew (S := fun W => W.cell? ⟨wr.heap.size, 0, none⟩ = some (.bool b6) ∧ W.cell? ⟨wr.heap.size, 1, none⟩ = some (.slice p6 l6 K6) ∧ W.cell? ⟨wr.heap.size, 2, none⟩ = some (.int .i64 e6)) (by kernel_rfl) (S.c3 6 rfl) (fun hS => ?_)
            generalize w61.drew = w62 at S n5 n6 n7 n8 n9 n10 HH hS ⊢
            refine takeOp (i := 1) (v := ?_) (opOf rfl) (by kernel_rfl) (fun _ _ _ h => h) rfl (fun W hW => ?_) hS ?_
            rotate_left
            · obtain ⟨hW0, hW1, hW2⟩ := hW; go_simp; try first | rfl | kernel_rfl
            try simp only [Act.put, List.setIfInBounds_toArray, List.set_cons_zero, List.set_cons_succ]
            refine takeOp (i := 4) (v := ?_) (opOf rfl) (by kernel_rfl) (fun _ _ _ h => h) rfl (fun W hW => ?_) hS ?_
            rotate_left
            · obtain ⟨hW0, hW1, hW2⟩ := hW; go_simp; try first | rfl | kernel_rfl
            try simp only [Act.put, List.setIfInBounds_toArray, List.set_cons_zero, List.set_cons_succ]
            refine wpAnyH_ready (rs := [0, 3]) (by kernel_rfl) (by simp) (AllReadyH.cons (opOf rfl) (fun KK hKK => ?_) (AllReadyH.cons (opOf rfl) (fun KK hKK => ?_) AllReadyH.nil))
            ·
              obtain ⟨c4_0, c4_1, c4_2⟩ := S.c3 4 rfl; go_simp; clear c4_0 c4_1 c4_2
              refine hKK.out _ _ hS (fun hS => ?_)
              clear hKK KK
              try simp only [Act.put, List.setIfInBounds_toArray, List.set_cons_zero, List.set_cons_succ]
              refine wpAnyH_ready (rs := [2, 3]) (by kernel_rfl) (by simp) (AllReadyH.cons (opOf rfl) (fun KK hKK => ?_) (AllReadyH.cons (opOf rfl) (fun KK hKK => ?_) AllReadyH.nil))
              ·
                go_simp; clear hS
                refine (S.call (dmin_any ⟨b9, p9, l9, K9, m9, e9, rfl, h9, n9, d9⟩ ⟨b6, p6, l6, K6, m6, e6, rfl, h6, n6, d6⟩ HK.out.1)).mono ?_
                clear S
                rintro e w63 ⟨⟨_, rfl, b11, p11, l11, K11, m11, e11, rfl, h11, n11, d11⟩, S, H⟩
                replace n5 := n5.hold H; replace n6 := n6.hold H; replace n7 := n7.hold H; replace n8 := n8.hold H; replace n9 := n9.hold H; replace n10 := n10.hold H; replace HH := HH.trans H.to32; clear H
                go_wp2_with fail
                refine hKK.out _ _ (S.c3 6 rfl) (fun hS => ?_)
                clear hKK KK
                try simp only [Act.put, List.setIfInBounds_toArray, List.set_cons_zero, List.set_cons_succ]
                refine rdyOp (i := 3) (by kernel_rfl) (opOf rfl) (fun KK hKK => ?_)
                obtain ⟨c5_0, c5_1, c5_2⟩ := S.c3 5 rfl; go_simp; clear c5_0 c5_1 c5_2
                refine hKK.out _ _ hS (fun hS => ?_)
                clear hKK KK
                try simp only [Act.put, List.setIfInBounds_toArray, List.set_cons_zero, List.set_cons_succ]
                refine rdyOp (i := 5) (by kernel_rfl) (opOf rfl) (fun KK hKK => ?_)
                go_simp; clear hS
                refine (S.call (dmax_any ⟨b10, p10, l10, K10, m10, e10, rfl, h10, n10, d10⟩ ⟨b6, p6, l6, K6, m6, e6, rfl, h6, n6, d6⟩ HK.out.1)).mono ?_
                clear S
                rintro e w64 ⟨⟨_, rfl, b12, p12, l12, K12, m12, e12, rfl, h12, n12, d12⟩, S, H⟩
                replace n5 := n5.hold H; replace n6 := n6.hold H; replace n7 := n7.hold H; replace n8 := n8.hold H; replace n9 := n9.hold H; replace n10 := n10.hold H; replace n11 := n11.hold H; replace HH := HH.trans H.to32; clear H
                go_wp2_with fail
                refine hKK.out _ _ (S.c3 6 rfl) (fun hS => ?_)
                clear hKK KK
                try simp only [Act.put, List.setIfInBounds_toArray, List.set_cons_zero, List.set_cons_succ]
                refine rdyOp (i := 6) (by kernel_rfl) (opOf rfl) (fun KK hKK => ?_)
                obtain ⟨c0, c1, c2⟩ := S.c3 4 rfl; obtain ⟨f0, f1, f2⟩ := S.f3 4 rfl
                go_simp; clear hS c0 f0 c1 f1 c2 f2
                have HP := S.put3 4 (.bool b11) (.slice p11 l11 K11) (.int .i64 e11) rfl rfl; have H := HP.2; replace S := HP.1; clear HP
                replace n5 := n5.hold32 H; replace n6 := n6.hold32 H; replace n7 := n7.hold32 H; replace n8 := n8.hold32 H; replace n9 := n9.hold32 H; replace n10 := n10.hold32 H; replace n11 := n11.hold32 H; replace n12 := n12.hold32 H; replace HH := HH.trans H; clear H
                refine hKK.out _ _ (S.c3 6 rfl) (fun hS => ?_)
                generalize (((w64.setCell ⟨g14, 0, none⟩ (.bool b11)).setCell ⟨g14, 1, none⟩ (.slice p11 l11 K11)).setCell ⟨g14, 2, none⟩ (.int .i64 e11)) = w65 at S n5 n6 n7 n8 n9 n10 n11 n12 HH hS ⊢
                clear hKK KK
                try simp only [Act.put, List.setIfInBounds_toArray, List.set_cons_zero, List.set_cons_succ]
                refine rdyOp (i := 7) (by kernel_rfl) (opOf rfl) (fun KK hKK => ?_)
                obtain ⟨c0, c1, c2⟩ := S.c3 5 rfl; obtain ⟨f0, f1, f2⟩ := S.f3 5 rfl
                go_simp; clear hS c0 f0 c1 f1 c2 f2
                have HP := S.put3 5 (.bool b12) (.slice p12 l12 K12) (.int .i64 e12) rfl rfl; have H := HP.2; replace S := HP.1; clear HP
                replace n5 := n5.hold32 H; replace n6 := n6.hold32 H; replace n7 := n7.hold32 H; replace n8 := n8.hold32 H; replace n9 := n9.hold32 H; replace n10 := n10.hold32 H; replace n11 := n11.hold32 H; replace n12 := n12.hold32 H; replace HH := HH.trans H; clear H
                refine hKK.out _ _ (S.c3 6 rfl) (fun hS => ?_)
                generalize (((w65.setCell ⟨g15, 0, none⟩ (.bool b12)).setCell ⟨g15, 1, none⟩ (.slice p12 l12 K12)).setCell ⟨g15, 2, none⟩ (.int .i64 e12)) = w66 at S n5 n6 n7 n8 n9 n10 n11 n12 HH hS ⊢
                clear hKK KK
                try simp only [Act.put, List.setIfInBounds_toArray, List.set_cons_zero, List.set_cons_succ]
                refine wpAnyH_done (by kernel_rfl) ?_ _
                clear hS HH; go_wp2_with fail
                replace S := S.take 6 (L := [(w.heap.size, 29, [.bool b1, .slice p1 l1 K1, .int .i64 e1, .bool b2, .slice p2 l2 K2, .int .i64 e2]), (w.heap.size + 1, 29, [.bool b3, .slice p3 l3 K3, .int .i64 e3, .bool b4, .slice p4 l4 K4, .int .i64 e4]), (w.heap.size + 1 + 1, 29, [.bool false, .slice none 0 0, .int .i64 0, .bool false, .slice none 0 0, .int .i64 0]), (w.heap.size + 1 + 1 + 1, 84, [.bool b5, .slice p5 l5 K5, .int .i64 e5, .bool b6, .slice p6 l6 K6, .int .i64 e6, .bool b7, .slice p7 l7 K7, .int .i64 e7, .bool b8, .slice p8 l8 K8, .int .i64 e8]), (g14, 27, [.bool b11, .slice p11 l11 K11, .int .i64 e11]), (g15, 27, [.bool b12, .slice p12 l12 K12, .int .i64 e12])]) rfl
                go_roundw
                case rel => exact .inr (.inl ⟨rfl, n5, n6, n7, n8, b11, p11, l11, K11, m11, e11, b12, p12, l12, K12, m12, e12, h11, n11, d11, h12, n12, d12, S⟩)
                case measure => simp [intOf]
              ·
                obtain ⟨c5_0, c5_1, c5_2⟩ := S.c3 5 rfl; go_simp; clear c5_0 c5_1 c5_2
                refine hKK.out _ _ hS (fun hS => ?_)
                clear hKK KK
                try simp only [Act.put, List.setIfInBounds_toArray, List.set_cons_zero, List.set_cons_succ]
                refine rdyOp (i := 2) (by kernel_rfl) (opOf rfl) (fun KK hKK => ?_)
                go_simp; clear hS
                refine (S.call (dmin_any ⟨b9, p9, l9, K9, m9, e9, rfl, h9, n9, d9⟩ ⟨b6, p6, l6, K6, m6, e6, rfl, h6, n6, d6⟩ HK.out.1)).mono ?_
                clear S
                rintro e w67 ⟨⟨_, rfl, b11, p11, l11, K11, m11, e11, rfl, h11, n11, d11⟩, S, H⟩
                replace n5 := n5.hold H; replace n6 := n6.hold H; replace n7 := n7.hold H; replace n8 := n8.hold H; replace n9 := n9.hold H; replace n10 := n10.hold H; replace HH := HH.trans H.to32; clear H
                go_wp2_with fail
                refine hKK.out _ _ (S.c3 6 rfl) (fun hS => ?_)
                clear hKK KK
                try simp only [Act.put, List.setIfInBounds_toArray, List.set_cons_zero, List.set_cons_succ]
                refine rdyOp (i := 5) (by kernel_rfl) (opOf rfl) (fun KK hKK => ?_)
                go_simp; clear hS
                refine (S.call (dmax_any ⟨b10, p10, l10, K10, m10, e10, rfl, h10, n10, d10⟩ ⟨b6, p6, l6, K6, m6, e6, rfl, h6, n6, d6⟩ HK.out.1)).mono ?_
                clear S
                rintro e w68 ⟨⟨_, rfl, b12, p12, l12, K12, m12, e12, rfl, h12, n12, d12⟩, S, H⟩
                replace n5 := n5.hold H; replace n6 := n6.hold H; replace n7 := n7.hold H; replace n8 := n8.hold H; replace n9 := n9.hold H; replace n10 := n10.hold H; replace n11 := n11.hold H; replace HH := HH.trans H.to32; clear H
                go_wp2_with fail
                refine hKK.out _ _ (S.c3 6 rfl) (fun hS => ?_)
                clear hKK KK
                try simp only [Act.put, List.setIfInBounds_toArray, List.set_cons_zero, List.set_cons_succ]
                refine rdyOp (i := 6) (by kernel_rfl) (opOf rfl) (fun KK hKK => ?_)
                obtain ⟨c0, c1, c2⟩ := S.c3 4 rfl; obtain ⟨f0, f1, f2⟩ := S.f3 4 rfl
                go_simp; clear hS c0 f0 c1 f1 c2 f2
                have HP := S.put3 4 (.bool b11) (.slice p11 l11 K11) (.int .i64 e11) rfl rfl; have H := HP.2; replace S := HP.1; clear HP
                replace n5 := n5.hold32 H; replace n6 := n6.hold32 H; replace n7 := n7.hold32 H; replace n8 := n8.hold32 H; replace n9 := n9.hold32 H; replace n10 := n10.hold32 H; replace n11 := n11.hold32 H; replace n12 := n12.hold32 H; replace HH := HH.trans H; clear H
                refine hKK.out _ _ (S.c3 6 rfl) (fun hS => ?_)
                generalize (((w68.setCell ⟨g14, 0, none⟩ (.bool b11)).setCell ⟨g14, 1, none⟩ (.slice p11 l11 K11)).setCell ⟨g14, 2, none⟩ (.int .i64 e11)) = w69 at S n5 n6 n7 n8 n9 n10 n11 n12 HH hS ⊢
                clear hKK KK
                try simp only [Act.put, List.setIfInBounds_toArray, List.set_cons_zero, List.set_cons_succ]
                refine rdyOp (i := 7) (by kernel_rfl) (opOf rfl) (fun KK hKK => ?_)
                obtain ⟨c0, c1, c2⟩ := S.c3 5 rfl; obtain ⟨f0, f1, f2⟩ := S.f3 5 rfl
                go_simp; clear hS c0 f0 c1 f1 c2 f2
                have HP := S.put3 5 (.bool b12) (.slice p12 l12 K12) (.int .i64 e12) rfl rfl; have H := HP.2; replace S := HP.1; clear HP
                replace n5 := n5.hold32 H; replace n6 := n6.hold32 H; replace n7 := n7.hold32 H; replace n8 := n8.hold32 H; replace n9 := n9.hold32 H; replace n10 := n10.hold32 H; replace n11 := n11.hold32 H; replace n12 := n12.hold32 H; replace HH := HH.trans H; clear H
                refine hKK.out _ _ (S.c3 6 rfl) (fun hS => ?_)
                generalize (((w69.setCell ⟨g15, 0, none⟩ (.bool b12)).setCell ⟨g15, 1, none⟩ (.slice p12 l12 K12)).setCell ⟨g15, 2, none⟩ (.int .i64 e12)) = w70 at S n5 n6 n7 n8 n9 n10 n11 n12 HH hS ⊢
                clear hKK KK
                try simp only [Act.put, List.setIfInBounds_toArray, List.set_cons_zero, List.set_cons_succ]
                refine wpAnyH_done (by kernel_rfl) ?_ _
                clear hS HH; go_wp2_with fail
                replace S := S.take 6 (L := [(w.heap.size, 29, [.bool b1, .slice p1 l1 K1, .int .i64 e1, .bool b2, .slice p2 l2 K2, .int .i64 e2]), (w.heap.size + 1, 29, [.bool b3, .slice p3 l3 K3, .int .i64 e3, .bool b4, .slice p4 l4 K4, .int .i64 e4]), (w.heap.size + 1 + 1, 29, [.bool false, .slice none 0 0, .int .i64 0, .bool false, .slice none 0 0, .int .i64 0]), (w.heap.size + 1 + 1 + 1, 84, [.bool b5, .slice p5 l5 K5, .int .i64 e5, .bool b6, .slice p6 l6 K6, .int .i64 e6, .bool b7, .slice p7 l7 K7, .int .i64 e7, .bool b8, .slice p8 l8 K8, .int .i64 e8]), (g14, 27, [.bool b11, .slice p11 l11 K11, .int .i64 e11]), (g15, 27, [.bool b12, .slice p12 l12 K12, .int .i64 e12])]) rfl
                go_roundw
                case rel => exact .inr (.inl ⟨rfl, n5, n6, n7, n8, b11, p11, l11, K11, m11, e11, b12, p12, l12, K12, m12, e12, h11, n11, d11, h12, n12, d12, S⟩)
                case measure => simp [intOf]
            ·
              obtain ⟨c5_0, c5_1, c5_2⟩ := S.c3 5 rfl; go_simp; clear c5_0 c5_1 c5_2
              refine hKK.out _ _ hS (fun hS => ?_)
              clear hKK KK
              try simp only [Act.put, List.setIfInBounds_toArray, List.set_cons_zero, List.set_cons_succ]
              refine rdyOp (i := 0) (by kernel_rfl) (opOf rfl) (fun KK hKK => ?_)
              obtain ⟨c4_0, c4_1, c4_2⟩ := S.c3 4 rfl; go_simp; clear c4_0 c4_1 c4_2
              refine hKK.out _ _ hS (fun hS => ?_)
              clear hKK KK
              try simp only [Act.put, List.setIfInBounds_toArray, List.set_cons_zero, List.set_cons_succ]
              refine rdyOp (i := 2) (by kernel_rfl) (opOf rfl) (fun KK hKK => ?_)
              go_simp; clear hS
              refine (S.call (dmin_any ⟨b9, p9, l9, K9, m9, e9, rfl, h9, n9, d9⟩ ⟨b6, p6, l6, K6, m6, e6, rfl, h6, n6, d6⟩ HK.out.1)).mono ?_
              clear S
              rintro e w71 ⟨⟨_, rfl, b11, p11, l11, K11, m11, e11, rfl, h11, n11, d11⟩, S, H⟩
              replace n5 := n5.hold H; replace n6 := n6.hold H; replace n7 := n7.hold H; replace n8 := n8.hold H; replace n9 := n9.hold H; replace n10 := n10.hold H; replace HH := HH.trans H.to32; clear H
              go_wp2_with fail
              refine hKK.out _ _ (S.c3 6 rfl) (fun hS => ?_)
              clear hKK KK
              try simp only [Act.put, List.setIfInBounds_toArray, List.set_cons_zero, List.set_cons_succ]
              refine rdyOp (i := 5) (by kernel_rfl) (opOf rfl) (fun KK hKK => ?_)
              go_simp; clear hS
              refine (S.call (dmax_any ⟨b10, p10, l10, K10, m10, e10, rfl, h10, n10, d10⟩ ⟨b6, p6, l6, K6, m6, e6, rfl, h6, n6, d6⟩ HK.out.1)).mono ?_
              clear S
              rintro e w72 ⟨⟨_, rfl, b12, p12, l12, K12, m12, e12, rfl, h12, n12, d12⟩, S, H⟩
              replace n5 := n5.hold H; replace n6 := n6.hold H; replace n7 := n7.hold H; replace n8 := n8.hold H; replace n9 := n9.hold H; replace n10 := n10.hold H; replace n11 := n11.hold H; replace HH := HH.trans H.to32; clear H
              go_wp2_with fail
              refine hKK.out _ _ (S.c3 6 rfl) (fun hS => ?_)
              clear hKK KK
              try simp only [Act.put, List.setIfInBounds_toArray, List.set_cons_zero, List.set_cons_succ]
              refine rdyOp (i := 6) (by kernel_rfl) (opOf rfl) (fun KK hKK => ?_)
              obtain ⟨c0, c1, c2⟩ := S.c3 4 rfl; obtain ⟨f0, f1, f2⟩ := S.f3 4 rfl
              go_simp; clear hS c0 f0 c1 f1 c2 f2
              have HP := S.put3 4 (.bool b11) (.slice p11 l11 K11) (.int .i64 e11) rfl rfl; have H := HP.2; replace S := HP.1; clear HP
              replace n5 := n5.hold32 H; replace n6 := n6.hold32 H; replace n7 := n7.hold32 H; replace n8 := n8.hold32 H; replace n9 := n9.hold32 H; replace n10 := n10.hold32 H; replace n11 := n11.hold32 H; replace n12 := n12.hold32 H; replace HH := HH.trans H; clear H
              refine hKK.out _ _ (S.c3 6 rfl) (fun hS => ?_)
              generalize (((w72.setCell ⟨g14, 0, none⟩ (.bool b11)).setCell ⟨g14, 1, none⟩ (.slice p11 l11 K11)).setCell ⟨g14, 2, none⟩ (.int .i64 e11)) = w73 at S n5 n6 n7 n8 n9 n10 n11 n12 HH hS ⊢
              clear hKK KK
              try simp only [Act.put, List.setIfInBounds_toArray, List.set_cons_zero, List.set_cons_succ]
              refine rdyOp (i := 7) (by kernel_rfl) (opOf rfl) (fun KK hKK => ?_)
              obtain ⟨c0, c1, c2⟩ := S.c3 5 rfl; obtain ⟨f0, f1, f2⟩ := S.f3 5 rfl
              go_simp; clear hS c0 f0 c1 f1 c2 f2
              have HP := S.put3 5 (.bool b12) (.slice p12 l12 K12) (.int .i64 e12) rfl rfl; have H := HP.2; replace S := HP.1; clear HP
              replace n5 := n5.hold32 H; replace n6 := n6.hold32 H; replace n7 := n7.hold32 H; replace n8 := n8.hold32 H; replace n9 := n9.hold32 H; replace n10 := n10.hold32 H; replace n11 := n11.hold32 H; replace n12 := n12.hold32 H; replace HH := HH.trans H; clear H
              refine hKK.out _ _ (S.c3 6 rfl) (fun hS => ?_)
              generalize (((w73.setCell ⟨g15, 0, none⟩ (.bool b12)).setCell ⟨g15, 1, none⟩ (.slice p12 l12 K12)).setCell ⟨g15, 2, none⟩ (.int .i64 e12)) = w74 at S n5 n6 n7 n8 n9 n10 n11 n12 HH hS ⊢
              clear hKK KK
              try simp only [Act.put, List.setIfInBounds_toArray, List.set_cons_zero, List.set_cons_succ]
              refine wpAnyH_done (by kernel_rfl) ?_ _
              clear hS HH; go_wp2_with fail
              replace S := S.take 6 (L := [(w.heap.size, 29, [.bool b1, .slice p1 l1 K1, .int .i64 e1, .bool b2, .slice p2 l2 K2, .int .i64 e2]), (w.heap.size + 1, 29, [.bool b3, .slice p3 l3 K3, .int .i64 e3, .bool b4, .slice p4 l4 K4, .int .i64 e4]), (w.heap.size + 1 + 1, 29, [.bool false, .slice none 0 0, .int .i64 0, .bool false, .slice none 0 0, .int .i64 0]), (w.heap.size + 1 + 1 + 1, 84, [.bool b5, .slice p5 l5 K5, .int .i64 e5, .bool b6, .slice p6 l6 K6, .int .i64 e6, .bool b7, .slice p7 l7 K7, .int .i64 e7, .bool b8, .slice p8 l8 K8, .int .i64 e8]), (g14, 27, [.bool b11, .slice p11 l11 K11, .int .i64 e11]), (g15, 27, [.bool b12, .slice p12 l12 K12, .int .i64 e12])]) rfl
              go_roundw
              case rel => exact .inr (.inl ⟨rfl, n5, n6, n7, n8, b11, p11, l11, K11, m11, e11, b12, p12, l12, K12, m12, e12, h11, n11, d11, h12, n12, d12, S⟩)
              case measure => simp [intOf]
          ·
            obtain ⟨c3_0, c3_1, c3_2, c3_3, c3_4, c3_5⟩ := S.c6 3 rfl; have c3_6 := S.c 3 6 rfl rfl; have c3_7 := S.c 3 7 rfl rfl; have c3_8 := S.c 3 8 rfl rfl; have c3_9 := S.c 3 9 rfl rfl; have c3_10 := S.c 3 10 rfl rfl; have c3_11 := S.c 3 11 rfl rfl
            have H := S.hnew 27 [.bool b7, .slice p7 l7 K7, .int .i64 e7]
            replace S := S.alloc 27 [.bool b7, .slice p7 l7 K7, .int .i64 e7] (wr.heap.size)
            try simp only [List.cons_append, List.nil_append] at S
            replace n5 := n5.hold H; replace n6 := n6.hold H; replace n7 := n7.hold H; replace n8 := n8.hold H; replace n9 := n9.hold H; replace n10 := n10.hold H
            clear H
            go_upto_region 18 with fail
            clear c3_0 c3_1 c3_2 c3_3 c3_4 c3_5 c3_6 c3_7 c3_8 c3_9 c3_10 c3_11
            generalize (wr.alloc (.cells #[.bool b7, .slice p7 l7 K7, .int .i64 e7] 27)) = w61 at S n5 n6 n7 n8 n9 n10 ⊢
            have HH := (Hold.drew w61).to32
            replace n5 := n5.hold32 HH; replace n6 := n6.hold32 HH; replace n7 := n7.hold32 HH; replace n8 := n8.hold32 HH; replace n9 := n9.hold32 HH; replace n10 := n10.hold32 HH
            replace S := S.drew
            refine wp_region_held_drew (S := fun W => W.cell? ⟨wr.heap.size, 0, none⟩ = some (.bool b7) ∧ W.cell? ⟨wr.heap.size, 1, none⟩ = some (.slice p7 l7 K7) ∧ W.cell? ⟨wr.heap.size, 2, none⟩ = some (.int .i64 e7)) (by kernel_rfl) (S.c3 6 rfl) (fun hS => ?_)
            generalize w61.drew = w62 at S n5 n6 n7 n8 n9 n10 HH hS ⊢
            refine takeOp (i := 1) (v := ?_) (opOf rfl) (by kernel_rfl) (fun _ _ _ h => h) rfl (fun W hW => ?_) hS ?_
            rotate_left
            · obtain ⟨hW0, hW1, hW2⟩ := hW; go_simp; try first | rfl | kernel_rfl
            try simp only [Act.put, List.setIfInBounds_toArray, List.set_cons_zero, List.set_cons_succ]
            refine takeOp (i := 4) (v := ?_) (opOf rfl) (by kernel_rfl) (fun _ _ _ h => h) rfl (fun W hW => ?_) hS ?_
            rotate_left
            · obtain ⟨hW0, hW1, hW2⟩ := hW; go_simp; try first | rfl | kernel_rfl
            try simp only [Act.put, List.setIfInBounds_toArray, List.set_cons_zero, List.set_cons_succ]
            refine wpAnyH_ready (rs := [0, 3]) (by kernel_rfl) (by simp) (AllReadyH.cons (opOf rfl) (fun KK hKK => ?_) (AllReadyH.cons (opOf rfl) (fun KK hKK => ?_) AllReadyH.nil))
            ·
              obtain ⟨c4_0, c4_1, c4_2⟩ := S.c3 4 rfl; go_simp; clear c4_0 c4_1 c4_2
              refine hKK.out _ _ hS (fun hS => ?_)
              clear hKK KK
              try simp only [Act.put, List.setIfInBounds_toArray, List.set_cons_zero, List.set_cons_succ]
              refine wpAnyH_ready (rs := [2, 3]) (by kernel_rfl) (by simp) (AllReadyH.cons (opOf rfl) (fun KK hKK => ?_) (AllReadyH.cons (opOf rfl) (fun KK hKK => ?_) AllReadyH.nil))
              ·
                go_simp; clear hS
                refine (S.call (dmin_any ⟨b9, p9, l9, K9, m9, e9, rfl, h9, n9, d9⟩ ⟨b7, p7, l7, K7, m7, e7, rfl, h7, n7, d7⟩ HK.out.1)).mono ?_
                clear S
                rintro e w63 ⟨⟨_, rfl, b11, p11, l11, K11, m11, e11, rfl, h11, n11, d11⟩, S, H⟩
                replace n5 := n5.hold H; replace n6 := n6.hold H; replace n7 := n7.hold H; replace n8 := n8.hold H; replace n9 := n9.hold H; replace n10 := n10.hold H; replace HH := HH.trans H.to32; clear H
                go_wp2_with fail
                refine hKK.out _ _ (S.c3 6 rfl) (fun hS => ?_)
                clear hKK KK
                try simp only [Act.put, List.setIfInBounds_toArray, List.set_cons_zero, List.set_cons_succ]
                refine rdyOp (i := 3) (by kernel_rfl) (opOf rfl) (fun KK hKK => ?_)
                obtain ⟨c5_0, c5_1, c5_2⟩ := S.c3 5 rfl; go_simp; clear c5_0 c5_1 c5_2
                refine hKK.out _ _ hS (fun hS => ?_)
                clear hKK KK
                try simp only [Act.put, List.setIfInBounds_toArray, List.set_cons_zero, List.set_cons_succ]
                refine rdyOp (i := 5) (by kernel_rfl) (opOf rfl) (fun KK hKK => ?_)
                go_simp; clear hS
                refine (S.call (dmax_any ⟨b10, p10, l10, K10, m10, e10, rfl, h10, n10, d10⟩ ⟨b7, p7, l7, K7, m7, e7, rfl, h7, n7, d7⟩ HK.out.1)).mono ?_
                clear S
                rintro e w64 ⟨⟨_, rfl, b12, p12, l12, K12, m12, e12, rfl, h12, n12, d12⟩, S, H⟩
                replace n5 := n5.hold H; replace n6 := n6.hold H; replace n7 := n7.hold H; replace n8 := n8.hold H; replace n9 := n9.hold H; replace n10 := n10.hold H; replace n11 := n11.hold H; replace HH := HH.trans H.to32; clear H
                go_wp2_with fail
                refine hKK.out _ _ (S.c3 6 rfl) (fun hS => ?_)
                clear hKK KK
                try simp only [Act.put, List.setIfInBounds_toArray, List.set_cons_zero, List.set_cons_succ]
                refine rdyOp (i := 6) (by kernel_rfl) (opOf rfl) (fun KK hKK => ?_)
                obtain ⟨c0, c1, c2⟩ := S.c3 4 rfl; obtain ⟨f0, f1, f2⟩ := S.f3 4 rfl
                go_simp; clear hS c0 f0 c1 f1 c2 f2
                have HP := S.put3 4 (.bool b11) (.slice p11 l11 K11) (.int .i64 e11) rfl rfl; have H := HP.2; replace S := HP.1; clear HP
                replace n5 := n5.hold32 H; replace n6 := n6.hold32 H; replace n7 := n7.hold32 H; replace n8 := n8.hold32 H; replace n9 := n9.hold32 H; replace n10 := n10.hold32 H; replace n11 := n11.hold32 H; replace n12 := n12.hold32 H; replace HH := HH.trans H; clear H
                refine hKK.out _ _ (S.c3 6 rfl) (fun hS => ?_)
                generalize (((w64.setCell ⟨g14, 0, none⟩ (.bool b11)).setCell ⟨g14, 1, none⟩ (.slice p11 l11 K11)).setCell ⟨g14, 2, none⟩ (.int .i64 e11)) = w65 at S n5 n6 n7 n8 n9 n10 n11 n12 HH hS ⊢
                clear hKK KK
                try simp only [Act.put, List.setIfInBounds_toArray, List.set_cons_zero, List.set_cons_succ]
                refine rdyOp (i := 7) (by kernel_rfl) (opOf rfl) (fun KK hKK => ?_)
                obtain ⟨c0, c1, c2⟩ := S.c3 5 rfl; obtain ⟨f0, f1, f2⟩ := S.f3 5 rfl
                go_simp; clear hS c0 f0 c1 f1 c2 f2
                have HP := S.put3 5 (.bool b12) (.slice p12 l12 K12) (.int .i64 e12) rfl rfl; have H := HP.2; replace S := HP.1; clear HP
                replace n5 := n5.hold32 H; replace n6 := n6.hold32 H; replace n7 := n7.hold32 H; replace n8 := n8.hold32 H; replace n9 := n9.hold32 H; replace n10 := n10.hold32 H; replace n11 := n11.hold32 H; replace n12 := n12.hold32 H; replace HH := HH.trans H; clear H
                refine hKK.out _ _ (S.c3 6 rfl) (fun hS => ?_)
                generalize (((w65.setCell ⟨g15, 0, none⟩ (.bool b12)).setCell ⟨g15, 1, none⟩ (.slice p12 l12 K12)).setCell ⟨g15, 2, none⟩ (.int .i64 e12)) = w66 at S n5 n6 n7 n8 n9 n10 n11 n12 HH hS ⊢
                clear hKK KK
                try simp only [Act.put, List.setIfInBounds_toArray, List.set_cons_zero, List.set_cons_succ]
                refine wpAnyH_done (by kernel_rfl) ?_ _
                clear hS HH; go_wp2_with fail
                replace S := S.take 6 (L := [(w.heap.size, 29, [.bool b1, .slice p1 l1 K1, .int .i64 e1, .bool b2, .slice p2 l2 K2, .int .i64 e2]), (w.heap.size + 1, 29, [.bool b3, .slice p3 l3 K3, .int .i64 e3, .bool b4, .slice p4 l4 K4, .int .i64 e4]), (w.heap.size + 1 + 1, 29, [.bool false, .slice none 0 0, .int .i64 0, .bool false, .slice none 0 0, .int .i64 0]), (w.heap.size + 1 + 1 + 1, 84, [.bool b5, .slice p5 l5 K5, .int .i64 e5, .bool b6, .slice p6 l6 K6, .int .i64 e6, .bool b7, .slice p7 l7 K7, .int .i64 e7, .bool b8, .slice p8 l8 K8, .int .i64 e8]), (g14, 27, [.bool b11, .slice p11 l11 K11, .int .i64 e11]), (g15, 27, [.bool b12, .slice p12 l12 K12, .int .i64 e12])]) rfl
                go_roundw
                case rel => exact .inr (.inr (.inl ⟨rfl, n5, n6, n7, n8, b11, p11, l11, K11, m11, e11, b12, p12, l12, K12, m12, e12, h11, n11, d11, h12, n12, d12, S⟩))
                case measure => simp [intOf]
              ·
                obtain ⟨c5_0, c5_1, c5_2⟩ := S.c3 5 rfl; go_simp; clear c5_0 c5_1 c5_2
                refine hKK.out _ _ hS (fun hS => ?_)
                clear hKK KK
                try simp only [Act.put, List.setIfInBounds_toArray, List.set_cons_zero, List.set_cons_succ]
                refine rdyOp (i := 2) (by kernel_rfl) (opOf rfl) (fun KK hKK => ?_)
                go_simp; clear hS
                refine (S.call (dmin_any ⟨b9, p9, l9, K9, m9, e9, rfl, h9, n9, d9⟩ ⟨b7, p7, l7, K7, m7, e7, rfl, h7, n7, d7⟩ HK.out.1)).mono ?_
                clear S
                rintro e w67 ⟨⟨_, rfl, b11, p11, l11, K11, m11, e11, rfl, h11, n11, d11⟩, S, H⟩
                replace n5 := n5.hold H; replace n6 := n6.hold H; replace n7 := n7.hold H; replace n8 := n8.hold H; replace n9 := n9.hold H; replace n10 := n10.hold H; replace HH := HH.trans H.to32; clear H
                go_wp2_with fail
                refine hKK.out _ _ (S.c3 6 rfl) (fun hS => ?_)
                clear hKK KK
                try simp only [Act.put, List.setIfInBounds_toArray, List.set_cons_zero, List.set_cons_succ]
                refine rdyOp (i := 5) (by kernel_rfl) (opOf rfl) (fun KK hKK => ?_)
                go_simp; clear hS
                refine (S.call (dmax_any ⟨b10, p10, l10, K10, m10, e10, rfl, h10, n10, d10⟩ ⟨b7, p7, l7, K7, m7, e7, rfl, h7, n7, d7⟩ HK.out.1)).mono ?_
                clear S
                rintro e w68 ⟨⟨_, rfl, b12, p12, l12, K12, m12, e12, rfl, h12, n12, d12⟩, S, H⟩
                replace n5 := n5.hold H; replace n6 := n6.hold H; replace n7 := n7.hold H; replace n8 := n8.hold H; replace n9 := n9.hold H; replace n10 := n10.hold H; replace n11 := n11.hold H; replace HH := HH.trans H.to32; clear H
                go_wp2_with fail
                refine hKK.out _ _ (S.c3 6 rfl) (fun hS => ?_)
                clear hKK KK
                try simp only [Act.put, List.setIfInBounds_toArray, List.set_cons_zero, List.set_cons_succ]
                refine rdyOp (i := 6) (by kernel_rfl) (opOf rfl) (fun KK hKK => ?_)
                obtain ⟨c0, c1, c2⟩ := S.c3 4 rfl; obtain ⟨f0, f1, f2⟩ := S.f3 4 rfl
                go_simp; clear hS c0 f0 c1 f1 c2 f2
                have HP := S.put3 4 (.bool b11) (.slice p11 l11 K11) (.int .i64 e11) rfl rfl; have H := HP.2; replace S := HP.1; clear HP
                replace n5 := n5.hold32 H; replace n6 := n6.hold32 H; replace n7 := n7.hold32 H; replace n8 := n8.hold32 H; replace n9 := n9.hold32 H; replace n10 := n10.hold32 H; replace n11 := n11.hold32 H; replace n12 := n12.hold32 H; replace HH := HH.trans H; clear H
                refine hKK.out _ _ (S.c3 6 rfl) (fun hS => ?_)
                generalize (((w68.setCell ⟨g14, 0, none⟩ (.bool b11)).setCell ⟨g14, 1, none⟩ (.slice p11 l11 K11)).setCell ⟨g14, 2, none⟩ (.int .i64 e11)) = w69 at S n5 n6 n7 n8 n9 n10 n11 n12 HH hS ⊢
                clear hKK KK
                try simp only [Act.put, List.setIfInBounds_toArray, List.set_cons_zero, List.set_cons_succ]
                refine rdyOp (i := 7) (by kernel_rfl) (opOf rfl) (fun KK hKK => ?_)
                obtain ⟨c0, c1, c2⟩ := S.c3 5 rfl; obtain ⟨f0, f1, f2⟩ := S.f3 5 rfl
                go_simp; clear hS c0 f0 c1 f1 c2 f2
                have HP := S.put3 5 (.bool b12) (.slice p12 l12 K12) (.int .i64 e12) rfl rfl; have H := HP.2; replace S := HP.1; clear HP
                replace n5 := n5.hold32 H; replace n6 := n6.hold32 H; replace n7 := n7.hold32 H; replace n8 := n8.hold32 H; replace n9 := n9.hold32 H; replace n10 := n10.hold32 H; replace n11 := n11.hold32 H; replace n12 := n12.hold32 H; replace HH := HH.trans H; clear H
                refine hKK.out _ _ (S.c3 6 rfl) (fun hS => ?_)
                generalize (((w69.setCell ⟨g15, 0, none⟩ (.bool b12)).setCell ⟨g15, 1, none⟩ (.slice p12 l12 K12)).setCell ⟨g15, 2, none⟩ (.int .i64 e12)) = w70 at S n5 n6 n7 n8 n9 n10 n11 n12 HH hS ⊢
                clear hKK KK
                try simp only [Act.put, List.setIfInBounds_toArray, List.set_cons_zero, List.set_cons_succ]
                refine wpAnyH_done (by kernel_rfl) ?_ _
                clear hS HH; go_wp2_with fail
                replace S := S.take 6 (L := [(w.heap.size, 29, [.bool b1, .slice p1 l1 K1, .int .i64 e1, .bool b2, .slice p2 l2 K2, .int .i64 e2]), (w.heap.size + 1, 29, [.bool b3, .slice p3 l3 K3, .int .i64 e3, .bool b4, .slice p4 l4 K4, .int .i64 e4]), (w.heap.size + 1 + 1, 29, [.bool false, .slice none 0 0, .int .i64 0, .bool false, .slice none 0 0, .int .i64 0]), (w.heap.size + 1 + 1 + 1, 84, [.bool b5, .slice p5 l5 K5, .int .i64 e5, .bool b6, .slice p6 l6 K6, .int .i64 e6, .bool b7, .slice p7 l7 K7, .int .i64 e7, .bool b8, .slice p8 l8 K8, .int .i64 e8]), (g14, 27, [.bool b11, .slice p11 l11 K11, .int .i64 e11]), (g15, 27, [.bool b12, .slice p12 l12 K12, .int .i64 e12])]) rfl
                go_roundw
                case rel => exact .inr (.inr (.inl ⟨rfl, n5, n6, n7, n8, b11, p11, l11, K11, m11, e11, b12, p12, l12, K12, m12, e12, h11, n11, d11, h12, n12, d12, S⟩))
                case measure => simp [intOf]
            ·
              obtain ⟨c5_0, c5_1, c5_2⟩ := S.c3 5 rfl; go_simp; clear c5_0 c5_1 c5_2
              refine hKK.out _ _ hS (fun hS => ?_)
              clear hKK KK
              try simp only [Act.put, List.setIfInBounds_toArray, List.set_cons_zero, List.set_cons_succ]
              refine rdyOp (i := 0) (by kernel_rfl) (opOf rfl) (fun KK hKK => ?_)
              obtain ⟨c4_0, c4_1, c4_2⟩ := S.c3 4 rfl; go_simp; clear c4_0 c4_1 c4_2
              refine hKK.out _ _ hS (fun hS => ?_)
              clear hKK KK
              try simp only [Act.put, List.setIfInBounds_toArray, List.set_cons_zero, List.set_cons_succ]
              refine rdyOp (i := 2) (by kernel_rfl) (opOf rfl) (fun KK hKK => ?_)
              go_simp; clear hS
              refine (S.call (dmin_any ⟨b9, p9, l9, K9, m9, e9, rfl, h9, n9, d9⟩ ⟨b7, p7, l7, K7, m7, e7, rfl, h7, n7, d7⟩ HK.out.1)).mono ?_
              clear S
              rintro e w71 ⟨⟨_, rfl, b11, p11, l11, K11, m11, e11, rfl, h11, n11, d11⟩, S, H⟩
              replace n5 := n5.hold H; replace n6 := n6.hold H; replace n7 := n7.hold H; replace n8 := n8.hold H; replace n9 := n9.hold H; replace n10 := n10.hold H; replace HH := HH.trans H.to32; clear H
              go_wp2_with fail
              refine hKK.out _ _ (S.c3 6 rfl) (fun hS => ?_)
              clear hKK KK
              try simp only [Act.put, List.setIfInBounds_toArray, List.set_cons_zero, List.set_cons_succ]
              refine rdyOp (i := 5) (by kernel_rfl) (opOf rfl) (fun KK hKK => ?_)
              go_simp; clear hS
              refine (S.call (dmax_any ⟨b10, p10, l10, K10, m10, e10, rfl, h10, n10, d10⟩ ⟨b7, p7, l7, K7, m7, e7, rfl, h7, n7, d7⟩ HK.out.1)).mono ?_
              clear S
              rintro e w72 ⟨⟨_, rfl, b12, p12, l12, K12, m12, e12, rfl, h12, n12, d12⟩, S, H⟩
              replace n5 := n5.hold H; replace n6 := n6.hold H; replace n7 := n7.hold H; replace n8 := n8.hold H; replace n9 := n9.hold H; replace n10 := n10.hold H; replace n11 := n11.hold H; replace HH := HH.trans H.to32; clear H
              go_wp2_with fail
              refine hKK.out _ _ (S.c3 6 rfl) (fun hS => ?_)
              clear hKK KK
              try simp only [Act.put, List.setIfInBounds_toArray, List.set_cons_zero, List.set_cons_succ]
              refine rdyOp (i := 6) (by kernel_rfl) (opOf rfl) (fun KK hKK => ?_)
              obtain ⟨c0, c1, c2⟩ := S.c3 4 rfl; obtain ⟨f0, f1, f2⟩ := S.f3 4 rfl
              go_simp; clear hS c0 f0 c1 f1 c2 f2
              have HP := S.put3 4 (.bool b11) (.slice p11 l11 K11) (.int .i64 e11) rfl rfl; have H := HP.2; replace S := HP.1; clear HP
              replace n5 := n5.hold32 H; replace n6 := n6.hold32 H; replace n7 := n7.hold32 H; replace n8 := n8.hold32 H; replace n9 := n9.hold32 H; replace n10 := n10.hold32 H; replace n11 := n11.hold32 H; replace n12 := n12.hold32 H; replace HH := HH.trans H; clear H
              refine hKK.out _ _ (S.c3 6 rfl) (fun hS => ?_)
              generalize (((w72.setCell ⟨g14, 0, none⟩ (.bool b11)).setCell ⟨g14, 1, none⟩ (.slice p11 l11 K11)).setCell ⟨g14, 2, none⟩ (.int .i64 e11)) = w73 at S n5 n6 n7 n8 n9 n10 n11 n12 HH hS ⊢
              clear hKK KK
              try simp only [Act.put, List.setIfInBounds_toArray, List.set_cons_zero, List.set_cons_succ]
              refine rdyOp (i := 7) (by kernel_rfl) (opOf rfl) (fun KK hKK => ?_)
              obtain ⟨c0, c1, c2⟩ := S.c3 5 rfl; obtain ⟨f0, f1, f2⟩ := S.f3 5 rfl
              go_simp; clear hS c0 f0 c1 f1 c2 f2
              have HP := S.put3 5 (.bool b12) (.slice p12 l12 K12) (.int .i64 e12) rfl rfl; have H := HP.2; replace S := HP.1; clear HP
              replace n5 := n5.hold32 H; replace n6 := n6.hold32 H; replace n7 := n7.hold32 H; replace n8 := n8.hold32 H; replace n9 := n9.hold32 H; replace n10 := n10.hold32 H; replace n11 := n11.hold32 H; replace n12 := n12.hold32 H; replace HH := HH.trans H; clear H
              refine hKK.out _ _ (S.c3 6 rfl) (fun hS => ?_)
              generalize (((w73.setCell ⟨g15, 0, none⟩ (.bool b12)).setCell ⟨g15, 1, none⟩ (.slice p12 l12 K12)).setCell ⟨g15, 2, none⟩ (.int .i64 e12)) = w74 at S n5 n6 n7 n8 n9 n10 n11 n12 HH hS ⊢
              clear hKK KK
              try simp only [Act.put, List.setIfInBounds_toArray, List.set_cons_zero, List.set_cons_succ]
              refine wpAnyH_done (by kernel_rfl) ?_ _
              clear hS HH; go_wp2_with fail
              replace S := S.take 6 (L := [(w.heap.size, 29, [.bool b1, .slice p1 l1 K1, .int .i64 e1, .bool b2, .slice p2 l2 K2, .int .i64 e2]), (w.heap.size + 1, 29, [.bool b3, .slice p3 l3 K3, .int .i64 e3, .bool b4, .slice p4 l4 K4, .int .i64 e4]), (w.heap.size + 1 + 1, 29, [.bool false, .slice none 0 0, .int .i64 0, .bool false, .slice none 0 0, .int .i64 0]), (w.heap.size + 1 + 1 + 1, 84, [.bool b5, .slice p5 l5 K5, .int .i64 e5, .bool b6, .slice p6 l6 K6, .int .i64 e6, .bool b7, .slice p7 l7 K7, .int .i64 e7, .bool b8, .slice p8 l8 K8, .int .i64 e8]), (g14, 27, [.bool b11, .slice p11 l11 K11, .int .i64 e11]), (g15, 27, [.bool b12, .slice p12 l12 K12, .int .i64 e12])]) rfl
              go_roundw
              case rel => exact .inr (.inr (.inl ⟨rfl, n5, n6, n7, n8, b11, p11, l11, K11, m11, e11, b12, p12, l12, K12, m12, e12, h11, n11, d11, h12, n12, d12, S⟩))
              case measure => simp [intOf]
          ·
            obtain ⟨c3_0, c3_1, c3_2, c3_3, c3_4, c3_5⟩ := S.c6 3 rfl; have c3_6 := S.c 3 6 rfl rfl; have c3_7 := S.c 3 7 rfl rfl; have c3_8 := S.c 3 8 rfl rfl; have c3_9 := S.c 3 9 rfl rfl; have c3_10 := S.c 3 10 rfl rfl; have c3_11 := S.c 3 11 rfl rfl
            have H := S.hnew 27 [.bool b8, .slice p8 l8 K8, .int .i64 e8]
            replace S := S.alloc 27 [.bool b8, .slice p8 l8 K8, .int .i64 e8] (wr.heap.size)
            try simp only [List.cons_append, List.nil_append] at S
            replace n5 := n5.hold H; replace n6 := n6.hold H; replace n7 := n7.hold H; replace n8 := n8.hold H; replace n9 := n9.hold H; replace n10 := n10.hold H
            clear H
            go_upto_region 18 with fail
            clear c3_0 c3_1 c3_2 c3_3 c3_4 c3_5 c3_6 c3_7 c3_8 c3_9 c3_10 c3_11
            generalize (wr.alloc (.cells #[.bool b8, .slice p8 l8 K8, .int .i64 e8] 27)) = w61 at S n5 n6 n7 n8 n9 n10 ⊢
            have HH := (Hold.drew w61).to32
            replace n5 := n5.hold32 HH; replace n6 := n6.hold32 HH; replace n7 := n7.hold32 HH; replace n8 := n8.hold32 HH; replace n9 := n9.hold32 HH; replace n10 := n10.hold32 HH
            replace S := S.drew
            refine wp_region_held_drew (S := fun W => W.cell? ⟨wr.heap.size, 0, none⟩ = some (.bool b8) ∧ W.cell? ⟨wr.heap.size, 1, none⟩ = some (.slice p8 l8 K8) ∧ W.cell? ⟨wr.heap.size, 2, none⟩ = some (.int .i64 e8)) (by kernel_rfl) (S.c3 6 rfl) (fun hS => ?_)
            generalize w61.drew = w62 at S n5 n6 n7 n8 n9 n10 HH hS ⊢
            refine takeOp (i := 1) (v := ?_) (opOf rfl) (by kernel_rfl) (fun _ _ _ h => h) rfl (fun W hW => ?_) hS ?_
            rotate_left
            · obtain ⟨hW0, hW1, hW2⟩ := hW; go_simp; try first | rfl | kernel_rfl
            try simp only [Act.put, List.setIfInBounds_toArray, List.set_cons_zero, List.set_cons_succ]
            refine takeOp (i := 4) (v := ?_) (opOf rfl) (by kernel_rfl) (fun _ _ _ h => h) rfl (fun W hW => ?_) hS ?_
            rotate_left
            · obtain ⟨hW0, hW1, hW2⟩ := hW; go_simp; try first | rfl | kernel_rfl
            try simp only [Act.put, List.setIfInBounds_toArray, List.set_cons_zero, List.set_cons_succ]
            refine wpAnyH_ready (rs := [0, 3]) (by kernel_rfl) (by simp) (AllReadyH.cons (opOf rfl) (fun KK hKK => ?_) (AllReadyH.cons (opOf rfl) (fun KK hKK => ?_) AllReadyH.nil))
            ·
              obtain ⟨c4_0, c4_1, c4_2⟩ := S.c3 4 rfl; go_simp; clear c4_0 c4_1 c4_2
              refine hKK.out _ _ hS (fun hS => ?_)
              clear hKK KK
              try simp only [Act.put, List.setIfInBounds_toArray, List.set_cons_zero, List.set_cons_succ]
              refine wpAnyH_ready (rs := [2, 3]) (by kernel_rfl) (by simp) (AllReadyH.cons (opOf rfl) (fun KK hKK => ?_) (AllReadyH.cons (opOf rfl) (fun KK hKK => ?_) AllReadyH.nil))
              ·
                go_simp; clear hS
                refine (S.call (dmin_any ⟨b9, p9, l9, K9, m9, e9, rfl, h9, n9, d9⟩ ⟨b8, p8, l8, K8, m8, e8, rfl, h8, n8, d8⟩ HK.out.1)).mono ?_
                clear S
                rintro e w63 ⟨⟨_, rfl, b11, p11, l11, K11, m11, e11, rfl, h11, n11, d11⟩, S, H⟩
                replace n5 := n5.hold H; replace n6 := n6.hold H; replace n7 := n7.hold H; replace n8 := n8.hold H; replace n9 := n9.hold H; replace n10 := n10.hold H; replace HH := HH.trans H.to32; clear H
                go_wp2_with fail
                refine hKK.out _ _ (S.c3 6 rfl) (fun hS => ?_)
                clear hKK KK
                try simp only [Act.put, List.setIfInBounds_toArray, List.set_cons_zero, List.set_cons_succ]
                refine rdyOp (i := 3) (by kernel_rfl) (opOf rfl) (fun KK hKK => ?_)
                obtain ⟨c5_0, c5_1, c5_2⟩ := S.c3 5 rfl; go_simp; clear c5_0 c5_1 c5_2
                refine hKK.out _ _ hS (fun hS => ?_)
                clear hKK KK
                try simp only [Act.put, List.setIfInBounds_toArray, List.set_cons_zero, List.set_cons_succ]
                refine rdyOp (i := 5) (by kernel_rfl) (opOf rfl) (fun KK hKK => ?_)
                go_simp; clear hS
                refine (S.call (dmax_any ⟨b10, p10, l10, K10, m10, e10, rfl, h10, n10, d10⟩ ⟨b8, p8, l8, K8, m8, e8, rfl, h8, n8, d8⟩ HK.out.1)).mono ?_
                clear S
                rintro e w64 ⟨⟨_, rfl, b12, p12, l12, K12, m12, e12, rfl, h12, n12, d12⟩, S, H⟩
                replace n5 := n5.hold H; replace n6 := n6.hold H; replace n7 := n7.hold H; replace n8 := n8.hold H; replace n9 := n9.hold H; replace n10 := n10.hold H; replace n11 := n11.hold H; replace HH := HH.trans H.to32; clear H
                go_wp2_with fail
                refine hKK.out _ _ (S.c3 6 rfl) (fun hS => ?_)
                clear hKK KK
                try simp only [Act.put, List.setIfInBounds_toArray, List.set_cons_zero, List.set_cons_succ]
                refine rdyOp (i := 6) (by kernel_rfl) (opOf rfl) (fun KK hKK => ?_)
                obtain ⟨c0, c1, c2⟩ := S.c3 4 rfl; obtain ⟨f0, f1, f2⟩ := S.f3 4 rfl
                go_simp; clear hS c0 f0 c1 f1 c2 f2
                have HP := S.put3 4 (.bool b11) (.slice p11 l11 K11) (.int .i64 e11) rfl rfl; have H := HP.2; replace S := HP.1; clear HP
                replace n5 := n5.hold32 H; replace n6 := n6.hold32 H; replace n7 := n7.hold32 H; replace n8 := n8.hold32 H; replace n9 := n9.hold32 H; replace n10 := n10.hold32 H; replace n11 := n11.hold32 H; replace n12 := n12.hold32 H; replace HH := HH.trans H; clear H
                refine hKK.out _ _ (S.c3 6 rfl) (fun hS => ?_)
                generalize (((w64.setCell ⟨g14, 0, none⟩ (.bool b11)).setCell ⟨g14, 1, none⟩ (.slice p11 l11 K11)).setCell ⟨g14, 2, none⟩ (.int .i64 e11)) = w65 at S n5 n6 n7 n8 n9 n10 n11 n12 HH hS ⊢
                clear hKK KK
                try simp only [Act.put, List.setIfInBounds_toArray, List.set_cons_zero, List.set_cons_succ]
                refine rdyOp (i := 7) (by kernel_rfl) (opOf rfl) (fun KK hKK => ?_)
                obtain ⟨c0, c1, c2⟩ := S.c3 5 rfl; obtain ⟨f0, f1, f2⟩ := S.f3 5 rfl
                go_simp; clear hS c0 f0 c1 f1 c2 f2
                have HP := S.put3 5 (.bool b12) (.slice p12 l12 K12) (.int .i64 e12) rfl rfl; have H := HP.2; replace S := HP.1; clear HP
                replace n5 := n5.hold32 H; replace n6 := n6.hold32 H; replace n7 := n7.hold32 H; replace n8 := n8.hold32 H; replace n9 := n9.hold32 H; replace n10 := n10.hold32 H; replace n11 := n11.hold32 H; replace n12 := n12.hold32 H; replace HH := HH.trans H; clear H
                refine hKK.out _ _ (S.c3 6 rfl) (fun hS => ?_)
                generalize (((w65.setCell ⟨g15, 0, none⟩ (.bool b12)).setCell ⟨g15, 1, none⟩ (.slice p12 l12 K12)).setCell ⟨g15, 2, none⟩ (.int .i64 e12)) = w66 at S n5 n6 n7 n8 n9 n10 n11 n12 HH hS ⊢
                clear hKK KK
                try simp only [Act.put, List.setIfInBounds_toArray, List.set_cons_zero, List.set_cons_succ]
                refine wpAnyH_done (by kernel_rfl) ?_ _
                clear hS HH; go_wp2_with fail
                replace S := S.take 6 (L := [(w.heap.size, 29, [.bool b1, .slice p1 l1 K1, .int .i64 e1, .bool b2, .slice p2 l2 K2, .int .i64 e2]), (w.heap.size + 1, 29, [.bool b3, .slice p3 l3 K3, .int .i64 e3, .bool b4, .slice p4 l4 K4, .int .i64 e4]), (w.heap.size + 1 + 1, 29, [.bool false, .slice none 0 0, .int .i64 0, .bool false, .slice none 0 0, .int .i64 0]), (w.heap.size + 1 + 1 + 1, 84, [.bool b5, .slice p5 l5 K5, .int .i64 e5, .bool b6, .slice p6 l6 K6, .int .i64 e6, .bool b7, .slice p7 l7 K7, .int .i64 e7, .bool b8, .slice p8 l8 K8, .int .i64 e8]), (g14, 27, [.bool b11, .slice p11 l11 K11, .int .i64 e11]), (g15, 27, [.bool b12, .slice p12 l12 K12, .int .i64 e12])]) rfl
                go_roundw
                case rel => exact .inr (.inr (.inr ⟨rfl, n5, n6, n7, n8, b11, p11, l11, K11, m11, e11, b12, p12, l12, K12, m12, e12, h11, n11, d11, h12, n12, d12, S⟩))
                case measure => simp [intOf]
              ·
                obtain ⟨c5_0, c5_1, c5_2⟩ := S.c3 5 rfl; go_simp; clear c5_0 c5_1 c5_2
                refine hKK.out _ _ hS (fun hS => ?_)
                clear hKK KK
                try simp only [Act.put, List.setIfInBounds_toArray, List.set_cons_zero, List.set_cons_succ]
                refine rdyOp (i := 2) (by kernel_rfl) (opOf rfl) (fun KK hKK => ?_)
                go_simp; clear hS
                refine (S.call (dmin_any ⟨b9, p9, l9, K9, m9, e9, rfl, h9, n9, d9⟩ ⟨b8, p8, l8, K8, m8, e8, rfl, h8, n8, d8⟩ HK.out.1)).mono ?_
                clear S
                rintro e w67 ⟨⟨_, rfl, b11, p11, l11, K11, m11, e11, rfl, h11, n11, d11⟩, S, H⟩
                replace n5 := n5.hold H; replace n6 := n6.hold H; replace n7 := n7.hold H; replace n8 := n8.hold H; replace n9 := n9.hold H; replace n10 := n10.hold H; replace HH := HH.trans H.to32; clear H
                go_wp2_with fail
                refine hKK.out _ _ (S.c3 6 rfl) (fun hS => ?_)
                clear hKK KK
                try simp only [Act.put, List.setIfInBounds_toArray, List.set_cons_zero, List.set_cons_succ]
                refine rdyOp (i := 5) (by kernel_rfl) (opOf rfl) (fun KK hKK => ?_)
                go_simp; clear hS
                refine (S.call (dmax_any ⟨b10, p10, l10, K10, m10, e10, rfl, h10, n10, d10⟩ ⟨b8, p8, l8, K8, m8, e8, rfl, h8, n8, d8⟩ HK.out.1)).mono ?_
                clear S
                rintro e w68 ⟨⟨_, rfl, b12, p12, l12, K12, m12, e12, rfl, h12, n12, d12⟩, S, H⟩
                replace n5 := n5.hold H; replace n6 := n6.hold H; replace n7 := n7.hold H; replace n8 := n8.hold H; replace n9 := n9.hold H; replace n10 := n10.hold H; replace n11 := n11.hold H; replace HH := HH.trans H.to32; clear H
                go_wp2_with fail
                refine hKK.out _ _ (S.c3 6 rfl) (fun hS => ?_)
                clear hKK KK
                try simp only [Act.put, List.setIfInBounds_toArray, List.set_cons_zero, List.set_cons_succ]
                refine rdyOp (i := 6) (by kernel_rfl) (opOf rfl) (fun KK hKK => ?_)
                obtain ⟨c0, c1, c2⟩ := S.c3 4 rfl; obtain ⟨f0, f1, f2⟩ := S.f3 4 rfl
                go_simp; clear hS c0 f0 c1 f1 c2 f2
                have HP := S.put3 4 (.bool b11) (.slice p11 l11 K11) (.int .i64 e11) rfl rfl; have H := HP.2; replace S := HP.1; clear HP
                replace n5 := n5.hold32 H; replace n6 := n6.hold32 H; replace n7 := n7.hold32 H; replace n8 := n8.hold32 H; replace n9 := n9.hold32 H; replace n10 := n10.hold32 H; replace n11 := n11.hold32 H; replace n12 := n12.hold32 H; replace HH := HH.trans H; clear H
                refine hKK.out _ _ (S.c3 6 rfl) (fun hS => ?_)
                generalize (((w68.setCell ⟨g14, 0, none⟩ (.bool b11)).setCell ⟨g14, 1, none⟩ (.slice p11 l11 K11)).setCell ⟨g14, 2, none⟩ (.int .i64 e11)) = w69 at S n5 n6 n7 n8 n9 n10 n11 n12 HH hS ⊢
                clear hKK KK
                try simp only [Act.put, List.setIfInBounds_toArray, List.set_cons_zero, List.set_cons_succ]
                refine rdyOp (i := 7) (by kernel_rfl) (opOf rfl) (fun KK hKK => ?_)
                obtain ⟨c0, c1, c2⟩ := S.c3 5 rfl; obtain ⟨f0, f1, f2⟩ := S.f3 5 rfl
                go_simp; clear hS c0 f0 c1 f1 c2 f2
                have HP := S.put3 5 (.bool b12) (.slice p12 l12 K12) (.int .i64 e12) rfl rfl; have H := HP.2; replace S := HP.1; clear HP
                replace n5 := n5.hold32 H; replace n6 := n6.hold32 H; replace n7 := n7.hold32 H; replace n8 := n8.hold32 H; replace n9 := n9.hold32 H; replace n10 := n10.hold32 H; replace n11 := n11.hold32 H; replace n12 := n12.hold32 H; replace HH := HH.trans H; clear H
                refine hKK.out _ _ (S.c3 6 rfl) (fun hS => ?_)
                generalize (((w69.setCell ⟨g15, 0, none⟩ (.bool b12)).setCell ⟨g15, 1, none⟩ (.slice p12 l12 K12)).setCell ⟨g15, 2, none⟩ (.int .i64 e12)) = w70 at S n5 n6 n7 n8 n9 n10 n11 n12 HH hS ⊢
                clear hKK KK
                try simp only [Act.put, List.setIfInBounds_toArray, List.set_cons_zero, List.set_cons_succ]
                refine wpAnyH_done (by kernel_rfl) ?_ _
                clear hS HH; go_wp2_with fail
                replace S := S.take 6 (L := [(w.heap.size, 29, [.bool b1, .slice p1 l1 K1, .int .i64 e1, .bool b2, .slice p2 l2 K2, .int .i64 e2]), (w.heap.size + 1, 29, [.bool b3, .slice p3 l3 K3, .int .i64 e3, .bool b4, .slice p4 l4 K4, .int .i64 e4]), (w.heap.size + 1 + 1, 29, [.bool false, .slice none 0 0, .int .i64 0, .bool false, .slice none 0 0, .int .i64 0]), (w.heap.size + 1 + 1 + 1, 84, [.bool b5, .slice p5 l5 K5, .int .i64 e5, .bool b6, .slice p6 l6 K6, .int .i64 e6, .bool b7, .slice p7 l7 K7, .int .i64 e7, .bool b8, .slice p8 l8 K8, .int .i64 e8]), (g14, 27, [.bool b11, .slice p11 l11 K11, .int .i64 e11]), (g15, 27, [.bool b12, .slice p12 l12 K12, .int .i64 e12])]) rfl
                go_roundw
                case rel => exact .inr (.inr (.inr ⟨rfl, n5, n6, n7, n8, b11, p11, l11, K11, m11, e11, b12, p12, l12, K12, m12, e12, h11, n11, d11, h12, n12, d12, S⟩))
                case measure => simp [intOf]
            ·
              obtain ⟨c5_0, c5_1, c5_2⟩ := S.c3 5 rfl; go_simp; clear c5_0 c5_1 c5_2
              refine hKK.out _ _ hS (fun hS => ?_)
              clear hKK KK
              try simp only [Act.put, List.setIfInBounds_toArray, List.set_cons_zero, List.set_cons_succ]
              refine rdyOp (i := 0) (by kernel_rfl) (opOf rfl) (fun KK hKK => ?_)
              obtain ⟨c4_0, c4_1, c4_2⟩ := S.c3 4 rfl; go_simp; clear c4_0 c4_1 c4_2
              refine hKK.out _ _ hS (fun hS => ?_)
              clear hKK KK
              try simp only [Act.put, List.setIfInBounds_toArray, List.set_cons_zero, List.set_cons_succ]
              refine rdyOp (i := 2) (by kernel_rfl) (opOf rfl) (fun KK hKK => ?_)
              go_simp; clear hS
              refine (S.call (dmin_any ⟨b9, p9, l9, K9, m9, e9, rfl, h9, n9, d9⟩ ⟨b8, p8, l8, K8, m8, e8, rfl, h8, n8, d8⟩ HK.out.1)).mono ?_
              clear S
              rintro e w71 ⟨⟨_, rfl, b11, p11, l11, K11, m11, e11, rfl, h11, n11, d11⟩, S, H⟩
              replace n5 := n5.hold H; replace n6 := n6.hold H; replace n7 := n7.hold H; replace n8 := n8.hold H; replace n9 := n9.hold H; replace n10 := n10.hold H; replace HH := HH.trans H.to32; clear H
              go_wp2_with fail
              refine hKK.out _ _ (S.c3 6 rfl) (fun hS => ?_)
              clear hKK KK
              try simp only [Act.put, List.setIfInBounds_toArray, List.set_cons_zero, List.set_cons_succ]
              refine rdyOp (i := 5) (by kernel_rfl) (opOf rfl) (fun KK hKK => ?_)
              go_simp; clear hS
              refine (S.call (dmax_any ⟨b10, p10, l10, K10, m10, e10, rfl, h10, n10, d10⟩ ⟨b8, p8, l8, K8, m8, e8, rfl, h8, n8, d8⟩ HK.out.1)).mono ?_
              clear S
              rintro e w72 ⟨⟨_, rfl, b12, p12, l12, K12, m12, e12, rfl, h12, n12, d12⟩, S, H⟩
              replace n5 := n5.hold H; replace n6 := n6.hold H; replace n7 := n7.hold H; replace n8 := n8.hold H; replace n9 := n9.hold H; replace n10 := n10.hold H; replace n11 := n11.hold H; replace HH := HH.trans H.to32; clear H
              go_wp2_with fail
              refine hKK.out _ _ (S.c3 6 rfl) (fun hS => ?_)
              clear hKK KK
              try simp only [Act.put, List.setIfInBounds_toArray, List.set_cons_zero, List.set_cons_succ]
              refine rdyOp (i := 6) (by kernel_rfl) (opOf rfl) (fun KK hKK => ?_)
              obtain ⟨c0, c1, c2⟩ := S.c3 4 rfl; obtain ⟨f0, f1, f2⟩ := S.f3 4 rfl
              go_simp; clear hS c0 f0 c1 f1 c2 f2
              have HP := S.put3 4 (.bool b11) (.slice p11 l11 K11) (.int .i64 e11) rfl rfl; have H := HP.2; replace S := HP.1; clear HP
              replace n5 := n5.hold32 H; replace n6 := n6.hold32 H; replace n7 := n7.hold32 H; replace n8 := n8.hold32 H; replace n9 := n9.hold32 H; replace n10 := n10.hold32 H; replace n11 := n11.hold32 H; replace n12 := n12.hold32 H; replace HH := HH.trans H; clear H
              refine hKK.out _ _ (S.c3 6 rfl) (fun hS => ?_)
              generalize (((w72.setCell ⟨g14, 0, none⟩ (.bool b11)).setCell ⟨g14, 1, none⟩ (.slice p11 l11 K11)).setCell ⟨g14, 2, none⟩ (.int .i64 e11)) = w73 at S n5 n6 n7 n8 n9 n10 n11 n12 HH hS ⊢
              clear hKK KK
              try simp only [Act.put, List.setIfInBounds_toArray, List.set_cons_zero, List.set_cons_succ]
              refine rdyOp (i := 7) (by kernel_rfl) (opOf rfl) (fun KK hKK => ?_)
              obtain ⟨c0, c1, c2⟩ := S.c3 5 rfl; obtain ⟨f0, f1, f2⟩ := S.f3 5 rfl
              go_simp; clear hS c0 f0 c1 f1 c2 f2
              have HP := S.put3 5 (.bool b12) (.slice p12 l12 K12) (.int .i64 e12) rfl rfl; have H := HP.2; replace S := HP.1; clear HP
              replace n5 := n5.hold32 H; replace n6 := n6.hold32 H; replace n7 := n7.hold32 H; replace n8 := n8.hold32 H; replace n9 := n9.hold32 H; replace n10 := n10.hold32 H; replace n11 := n11.hold32 H; replace n12 := n12.hold32 H; replace HH := HH.trans H; clear H
              refine hKK.out _ _ (S.c3 6 rfl) (fun hS => ?_)
              generalize (((w73.setCell ⟨g15, 0, none⟩ (.bool b12)).setCell ⟨g15, 1, none⟩ (.slice p12 l12 K12)).setCell ⟨g15, 2, none⟩ (.int .i64 e12)) = w74 at S n5 n6 n7 n8 n9 n10 n11 n12 HH hS ⊢
              clear hKK KK
              try simp only [Act.put, List.setIfInBounds_toArray, List.set_cons_zero, List.set_cons_succ]
              refine wpAnyH_done (by kernel_rfl) ?_ _
              clear hS HH; go_wp2_with fail
              replace S := S.take 6 (L := [(w.heap.size, 29, [.bool b1, .slice p1 l1 K1, .int .i64 e1, .bool b2, .slice p2 l2 K2, .int .i64 e2]), (w.heap.size + 1, 29, [.bool b3, .slice p3 l3 K3, .int .i64 e3, .bool b4, .slice p4 l4 K4, .int .i64 e4]), (w.heap.size + 1 + 1, 29, [.bool false, .slice none 0 0, .int .i64 0, .bool false, .slice none 0 0, .int .i64 0]), (w.heap.size + 1 + 1 + 1, 84, [.bool b5, .slice p5 l5 K5, .int .i64 e5, .bool b6, .slice p6 l6 K6, .int .i64 e6, .bool b7, .slice p7 l7 K7, .int .i64 e7, .bool b8, .slice p8 l8 K8, .int .i64 e8]), (g14, 27, [.bool b11, .slice p11 l11 K11, .int .i64 e11]), (g15, 27, [.bool b12, .slice p12 l12 K12, .int .i64 e12])]) rfl
              go_roundw
              case rel => exact .inr (.inr (.inr ⟨rfl, n5, n6, n7, n8, b11, p11, l11, K11, m11, e11, b12, p12, l12, K12, m12, e12, h11, n11, d11, h12, n12, d12, S⟩))
              case measure => simp [intOf]
          ·
            obtain ⟨c4_0, c4_1, c4_2⟩ := S.c3 4 rfl; obtain ⟨c5_0, c5_1, c5_2⟩ := S.c3 5 rfl; go_wp2_with fail; clear c4_0 c4_1 c4_2 c5_0 c5_1 c5_2
            refine (S.call (sround_any (HK.out.2.2.2.1.below S.below) ⟨b9, p9, l9, K9, m9, e9, b10, p10, l10, K10, m10, e10, rfl, h9, n9, d9, h10, n10, d10⟩ HK.out.2.2.2.2 n HK.out.2.1 HK.out.2.2.1)).mono ?_
            clear S
            rintro e w61 ⟨⟨_, rfl, b13, p13, l13, K13, m13, e13, b14, p14, l14, K14, m14, e14, rfl, h13, n13, d13, h14, n14, d14⟩, S, H⟩
            replace n9 := n9.hold H; replace n10 := n10.hold H
            clear H; obtain ⟨c4_0, c4_1, c4_2⟩ := S.c3 4 rfl; obtain ⟨c5_0, c5_1, c5_2⟩ := S.c3 5 rfl; clear c4_0 c4_1 c4_2 c5_0 c5_1 c5_2; obtain ⟨c2_0, c2_1, c2_2, c2_3, c2_4, c2_5⟩ := S.c6 2 rfl
            obtain ⟨f2_0, f2_1, f2_2, f2_3, f2_4, f2_5⟩ := S.f6 2 rfl
            have HP := S.put6 2 (.bool b13) (.slice p13 l13 K13) (.int .i64 e13) (.bool b14) (.slice p14 l14 K14) (.int .i64 e14) rfl rfl; have H := HP.2; replace S := HP.1; clear HP
            replace n9 := n9.hold32 H; replace n10 := n10.hold32 H; replace n13 := n13.hold32 H; replace n14 := n14.hold32 H
            clear H; go_wp2_with fail; obtain ⟨d2_0, d2_1, d2_2, d2_3, d2_4, d2_5⟩ := S.c6 2 rfl
            exact bodyPost_ret (v := .tuple #[.agg #[.bool b13, .slice p13 l13 K13, .int .i64 e13, .bool b14, .slice p14 l14 K14, .int .i64 e14], .int .i64 0]) (by simp [results, Tryz.f15, go_sem, d2_0, d2_1, d2_2, d2_3, d2_4, d2_5]) rfl (⟨⟨_, rfl, b13, p13, l13, K13, m13, e13, b14, p14, l14, K14, m14, e14, rfl, h13, n13, d13, h14, n14, d14⟩, S.below⟩)
set_option maxRecDepth 100000 in
set_option maxHeartbeats 4000000 in
theorem rof_any (n d : Int) (w : World) (hn0 : -9223372036854775808 ≤ n) (hn1 : n ≤ 9223372036854775807) (hd0 : -9223372036854775808 ≤ d) (hd1 : d ≤ 9223372036854775807) (h0 : d ≠ 0) (q : Rat) (hq : q = Rat.divInt n d) :
    Calls Tryz.prog 45 #[.int .i64 n, .int .i64 d] w fun e w' => (∃ u, e = .returned u ∧ IsRat w' u q) ∧ Below w.heap.size w w' := by
  have HD := Lib.hid (And.intro hn0 (And.intro hn1 (And.intro hd0 (And.intro hd1 (And.intro h0 hq)))))
  have HB := Lib.hid (And.intro (show n.natAbs < maxN from lt_maxN (by omega)) (show d.natAbs < maxN from lt_maxN (by omega)))
  clear hn0 hn1 hd0 hd1 h0 hq
  have S := (St.start w).alloc 34 [.bool false, .slice none 0 0, .slice none 0 0] (w.heap.size)
  try simp only [List.nil_append] at S
  obtain ⟨c0_0, c0_1, c0_2⟩ := S.c3 0 rfl
  go_enter Tryz.func45, Tryz.ntmps45
  go_wp2_with fail; clear c0_0 c0_1 c0_2
  refine (S.call (wof_any n _ HD.out.1 HD.out.2.1)).mono ?_
  clear S
  rintro e w1 ⟨⟨_, rfl, pn, ln, Kn, rfl, nn⟩, S, H⟩
  clear H; obtain ⟨c0_0, c0_1, c0_2⟩ := S.c3 0 rfl; go_wp2_with fail; clear c0_0 c0_1 c0_2
  refine (S.call (wof_any d _ HD.out.2.2.1 HD.out.2.2.2.1)).mono ?_
  clear S
  rintro e w2 ⟨⟨_, rfl, pd, ld, Kd, rfl, nd⟩, S, H⟩
  replace nn := nn.hold H; clear H; obtain ⟨c0_0, c0_1, c0_2⟩ := S.c3 0 rfl; go_wp2_with fail; clear c0_0 c0_1 c0_2
  refine (S.call (rmake_any ⟨_, _, _, rfl, nn⟩ ⟨_, _, _, rfl, nd⟩ HB.out.1 HB.out.2 HD.out.2.2.2.2.1 q HD.out.2.2.2.2.2)).mono ?_
  clear S
  rintro e w3 ⟨⟨_, rfl, b, p, l, K, q', j, J, rfl, hb, n1, d1⟩, S, H⟩
  replace nn := nn.hold H; replace nd := nd.hold H
  clear H; obtain ⟨c0_0, c0_1, c0_2⟩ := S.c3 0 rfl
  have H := S.hnew 34 [.bool b, .slice p l K, .slice q' j J]
  replace S := S.alloc 34 [.bool b, .slice p l K, .slice q' j J] (w3.heap.size)
  try simp only [List.cons_append, List.nil_append] at S
  replace nn := nn.hold H; replace nd := nd.hold H; replace n1 := n1.hold H; replace d1 := d1.hold H
  clear H; clear c0_0 c0_1 c0_2; obtain ⟨c0_0, c0_1, c0_2⟩ := S.c3 0 rfl; obtain ⟨c1_0, c1_1, c1_2⟩ := S.c3 1 rfl
  obtain ⟨f0_0, f0_1, f0_2⟩ := S.f3 0 rfl
  have HP := S.putq 0 (.bool b) (.slice p l K) (.slice q' j J) rfl rfl; have H := HP.2; replace S := HP.1; clear HP
  replace nn := nn.hold H; replace nd := nd.hold H; replace n1 := n1.hold H; replace d1 := d1.hold H
  clear H; go_wp2_with fail; obtain ⟨d0_0, d0_1, d0_2⟩ := S.c3 0 rfl
  exact bodyPost_ret (v := .agg #[.bool b, .slice p l K, .slice q' j J]) (by simp [results, Tryz.f45, go_sem, d0_0, d0_1, d0_2]) rfl (⟨⟨_, rfl, b, p, l, K, q', j, J, rfl, hb, n1, d1⟩, S.below⟩)
set_option maxRecDepth 100000 in
set_option maxHeartbeats 4000000 in
theorem smeet_any {va vb : Value} {x y u v : Rat} {w : World} {L H : Nat} (ha : IsSp w va x y L H) (hb : IsSp w vb u v L H) (hk : H + L ≤ 16384) (hr : ¬ min2 y v < max2 x u) :
    Calls Tryz.prog 30 #[va, vb] w fun e w' => (∃ z, e = .returned (.tuple #[z, .int .i64 0]) ∧ IsSp w' z (max2 x u) (min2 y v) L H) ∧ Below w.heap.size w w' := by
  obtain ⟨b1, p1, l1, K1, m1, e1, b2, p2, l2, K2, m2, e2, rfl, h1, n1, d1, h2, n2, d2⟩ := ha
  obtain ⟨b3, p3, l3, K3, m3, e3, b4, p4, l4, K4, m4, e4, rfl, h3, n3, d3, h4, n4, d4⟩ := hb
  have HK := Lib.hid hk
  have hl := Lib.hid (decide_eq_false hr)
  clear hk hr
  have S := (((St.start w).alloc 29 [.bool b1, .slice p1 l1 K1, .int .i64 e1, .bool b2, .slice p2 l2 K2, .int .i64 e2] (w.heap.size)).alloc 29 [.bool b3, .slice p3 l3 K3, .int .i64 e3, .bool b4, .slice p4 l4 K4, .int .i64 e4] (w.heap.size + 1)).alloc 29 [.bool false, .slice none 0 0, .int .i64 0, .bool false, .slice none 0 0, .int .i64 0] (w.heap.size + 1 + 1)
  try simp only [List.cons_append, List.nil_append] at S
  replace n1 := n1.hold S.hold; replace n2 := n2.hold S.hold; replace n3 := n3.hold S.hold; replace n4 := n4.hold S.hold
  obtain ⟨c0_0, c0_1, c0_2, c0_3, c0_4, c0_5⟩ := S.c6 0 rfl; obtain ⟨c1_0, c1_1, c1_2, c1_3, c1_4, c1_5⟩ := S.c6 1 rfl; obtain ⟨c2_0, c2_1, c2_2, c2_3, c2_4, c2_5⟩ := S.c6 2 rfl
  go_enter Tryz.func30, Tryz.ntmps30
  go_upto_region 1 with fail
  clear c0_0 c0_1 c0_2 c0_3 c0_4 c0_5 c1_0 c1_1 c1_2 c1_3 c1_4 c1_5 c2_0 c2_1 c2_2 c2_3 c2_4 c2_5
  generalize (((w.alloc (.cells #[.bool b1, .slice p1 l1 K1, .int .i64 e1, .bool b2, .slice p2 l2 K2, .int .i64 e2] 29)).alloc (.cells #[.bool b3, .slice p3 l3 K3, .int .i64 e3, .bool b4, .slice p4 l4 K4, .int .i64 e4] 29)).alloc (.cells #[.bool false, .slice none 0 0, .int .i64 0, .bool false, .slice none 0 0, .int .i64 0] 29)) = w1 at S n1 n2 n3 n4 ⊢
  go_cut [6, 7] (fun s6 s7 wx => ∃ g6 g7 b5 p5 l5 K5 m5 e5 b6 p6 l6 K6 m6 e6, s6 = .pointer (some ⟨g6, 0, none⟩) ∧ s7 = .pointer (some ⟨g7, 0, none⟩) ∧ Su w wx [(w.heap.size, 29, [.bool b1, .slice p1 l1 K1, .int .i64 e1, .bool b2, .slice p2 l2 K2, .int .i64 e2]), (w.heap.size + 1, 29, [.bool b3, .slice p3 l3 K3, .int .i64 e3, .bool b4, .slice p4 l4 K4, .int .i64 e4]), (w.heap.size + 1 + 1, 29, [.bool false, .slice none 0 0, .int .i64 0, .bool false, .slice none 0 0, .int .i64 0]), (g6, 27, [.bool b5, .slice p5 l5 K5, .int .i64 e5]), (g7, 27, [.bool b6, .slice p6 l6 K6, .int .i64 e6])] ∧ Hid (negB m5 = b5) ∧ IsNat wx (.slice p5 l5 K5) m5.natAbs ∧ Hid (DyF m5 e5 (max2 x u) L H) ∧ Hid (negB m6 = b6) ∧ IsNat wx (.slice p6 l6 K6) m6.natAbs ∧ Hid (DyF m6 e6 (min2 y v) L H) ∧ Hold32 w1 wx)
  case first =>
    have HH := (Hold.drew w1).to32
    replace n1 := n1.hold32 HH; replace n2 := n2.hold32 HH; replace n3 := n3.hold32 HH; replace n4 := n4.hold32 HH
    replace S := S.drew
    refine wp_region_held_drew (S := fun W => W.cell? ⟨w.heap.size, 0, none⟩ = some (.bool b1) ∧ W.cell? ⟨w.heap.size, 1, none⟩ = some (.slice p1 l1 K1) ∧ W.cell? ⟨w.heap.size, 2, none⟩ = some (.int .i64 e1) ∧ W.cell? ⟨w.heap.size, 3, none⟩ = some (.bool b2) ∧ W.cell? ⟨w.heap.size, 4, none⟩ = some (.slice p2 l2 K2) ∧ W.cell? ⟨w.heap.size, 5, none⟩ = some (.int .i64 e2) ∧ W.cell? ⟨w.heap.size + 1, 0, none⟩ = some (.bool b3) ∧ W.cell? ⟨w.heap.size + 1, 1, none⟩ = some (.slice p3 l3 K3) ∧ W.cell? ⟨w.heap.size + 1, 2, none⟩ = some (.int .i64 e3) ∧ W.cell? ⟨w.heap.size + 1, 3, none⟩ = some (.bool b4) ∧ W.cell? ⟨w.heap.size + 1, 4, none⟩ = some (.slice p4 l4 K4) ∧ W.cell? ⟨w.heap.size + 1, 5, none⟩ = some (.int .i64 e4)) (by kernel_rfl) (con6 (S.c6 0 rfl) (S.c6 1 rfl)) (fun hS => ?_)
    generalize w1.drew = w2 at S n1 n2 n3 n4 HH hS ⊢
    refine takeOp (i := 0) (v := ?_) (opOf rfl) (by kernel_rfl) (fun _ _ _ h => h) rfl (fun W hW => ?_) hS ?_
    rotate_left
    · obtain ⟨hW0, hW1, hW2, hW3, hW4, hW5, hW6, hW7, hW8, hW9, hW10, hW11⟩ := hW; go_simp; try first | rfl | kernel_rfl
    try simp only [Act.put, List.setIfInBounds_toArray, List.set_cons_zero, List.set_cons_succ]
    refine takeOp (i := 1) (v := ?_) (opOf rfl) (by kernel_rfl) (fun _ _ _ h => h) rfl (fun W hW => ?_) hS ?_
    rotate_left
    · obtain ⟨hW0, hW1, hW2, hW3, hW4, hW5, hW6, hW7, hW8, hW9, hW10, hW11⟩ := hW; go_simp; try first | rfl | kernel_rfl
    try simp only [Act.put, List.setIfInBounds_toArray, List.set_cons_zero, List.set_cons_succ]
    refine takeOp (i := 2) (v := ?_) (opOf rfl) (by kernel_rfl) (fun _ _ _ h => h) rfl (fun W hW => ?_) hS ?_
    rotate_left
    · obtain ⟨hW0, hW1, hW2, hW3, hW4, hW5, hW6, hW7, hW8, hW9, hW10, hW11⟩ := hW; go_simp; try first | rfl | kernel_rfl
    try simp only [Act.put, List.setIfInBounds_toArray, List.set_cons_zero, List.set_cons_succ]
    refine takeOp (i := 3) (v := ?_) (opOf rfl) (by kernel_rfl) (fun _ _ _ h => h) rfl (fun W hW => ?_) hS ?_
    rotate_left
    · obtain ⟨hW0, hW1, hW2, hW3, hW4, hW5, hW6, hW7, hW8, hW9, hW10, hW11⟩ := hW; go_simp; try first | rfl | kernel_rfl
    try simp only [Act.put, List.setIfInBounds_toArray, List.set_cons_zero, List.set_cons_succ]
    refine takeOp (i := 5) (v := ?_) (opOf rfl) (by kernel_rfl) (fun _ _ _ h => h) rfl (fun W hW => ?_) hS ?_
    rotate_left
    · obtain ⟨hW0, hW1, hW2, hW3, hW4, hW5, hW6, hW7, hW8, hW9, hW10, hW11⟩ := hW; go_simp; try first | rfl | kernel_rfl
    try simp only [Act.put, List.setIfInBounds_toArray, List.set_cons_zero, List.set_cons_succ]
    refine takeOp (i := 6) (v := ?_) (opOf rfl) (by kernel_rfl) (fun _ _ _ h => h) rfl (fun W hW => ?_) hS ?_
    rotate_left
    · obtain ⟨hW0, hW1, hW2, hW3, hW4, hW5, hW6, hW7, hW8, hW9, hW10, hW11⟩ := hW; go_simp; try first | rfl | kernel_rfl
    try simp only [Act.put, List.setIfInBounds_toArray, List.set_cons_zero, List.set_cons_succ]
    refine takeOp (i := 7) (v := ?_) (opOf rfl) (by kernel_rfl) (fun _ _ _ h => h) rfl (fun W hW => ?_) hS ?_
    rotate_left
    · obtain ⟨hW0, hW1, hW2, hW3, hW4, hW5, hW6, hW7, hW8, hW9, hW10, hW11⟩ := hW; go_simp; try first | rfl | kernel_rfl
    try simp only [Act.put, List.setIfInBounds_toArray, List.set_cons_zero, List.set_cons_succ]
    refine takeOp (i := 8) (v := ?_) (opOf rfl) (by kernel_rfl) (fun _ _ _ h => h) rfl (fun W hW => ?_) hS ?_
    rotate_left
    · obtain ⟨hW0, hW1, hW2, hW3, hW4, hW5, hW6, hW7, hW8, hW9, hW10, hW11⟩ := hW; go_simp; try first | rfl | kernel_rfl
    try simp only [Act.put, List.setIfInBounds_toArray, List.set_cons_zero, List.set_cons_succ]
    refine wpAnyH_ready (rs := [4, 10, 11]) (by kernel_rfl) (by simp) (AllReadyH.cons (opOf rfl) (fun KK hKK => ?_) (AllReadyH.cons (opOf rfl) (fun KK hKK => ?_) (AllReadyH.cons (opOf rfl) (fun KK hKK => ?_) AllReadyH.nil)))
    ·
      go_simp; clear hS
      refine (S.call (dmax_any ⟨b1, p1, l1, K1, m1, e1, rfl, h1, n1, d1⟩ ⟨b3, p3, l3, K3, m3, e3, rfl, h3, n3, d3⟩ HK.out)).mono ?_
      clear S
      rintro e w3 ⟨⟨_, rfl, b5, p5, l5, K5, m5, e5, rfl, h5, n5, d5⟩, S, H⟩
      replace n1 := n1.hold H; replace n2 := n2.hold H; replace n3 := n3.hold H; replace n4 := n4.hold H; replace HH := HH.trans H.to32; clear H
      go_wp2_with fail
      refine hKK.out _ _ (con6 (S.c6 0 rfl) (S.c6 1 rfl)) (fun hS => ?_)
      clear hKK KK
      try simp only [Act.put, List.setIfInBounds_toArray, List.set_cons_zero, List.set_cons_succ]
      refine wpAnyH_ready (rs := [9, 10, 11]) (by kernel_rfl) (by simp) (AllReadyH.cons (opOf rfl) (fun KK hKK => ?_) (AllReadyH.cons (opOf rfl) (fun KK hKK => ?_) (AllReadyH.cons (opOf rfl) (fun KK hKK => ?_) AllReadyH.nil)))
      ·
        go_simp; clear hS
        refine (S.call (dmin_any ⟨b2, p2, l2, K2, m2, e2, rfl, h2, n2, d2⟩ ⟨b4, p4, l4, K4, m4, e4, rfl, h4, n4, d4⟩ HK.out)).mono ?_
        clear S
        rintro e w4 ⟨⟨_, rfl, b6, p6, l6, K6, m6, e6, rfl, h6, n6, d6⟩, S, H⟩
        replace n1 := n1.hold H; replace n2 := n2.hold H; replace n3 := n3.hold H; replace n4 := n4.hold H; replace n5 := n5.hold H; replace HH := HH.trans H.to32; clear H
        go_wp2_with fail
        refine hKK.out _ _ (con6 (S.c6 0 rfl) (S.c6 1 rfl)) (fun hS => ?_)
        clear hKK KK
        try simp only [Act.put, List.setIfInBounds_toArray, List.set_cons_zero, List.set_cons_succ]
        refine wpAnyH_ready (rs := [10, 11]) (by kernel_rfl) (by simp) (AllReadyH.cons (opOf rfl) (fun KK hKK => ?_) (AllReadyH.cons (opOf rfl) (fun KK hKK => ?_) AllReadyH.nil))
        ·
          go_simp; clear hS
          have H := S.hnew 27 [.bool false, .slice none 0 0, .int .i64 0]
          replace S := S.alloc 27 [.bool false, .slice none 0 0, .int .i64 0] (w4.heap.size)
          try simp only [List.cons_append, List.nil_append] at S
          replace n1 := n1.hold H; replace n2 := n2.hold H; replace n3 := n3.hold H; replace n4 := n4.hold H; replace n5 := n5.hold H; replace n6 := n6.hold H; replace HH := HH.trans H.to32; clear H
          refine hKK.out _ _ (con6 (S.c6 0 rfl) (S.c6 1 rfl)) (fun hS => ?_)
          generalize (w4.alloc (.cells #[.bool false, .slice none 0 0, .int .i64 0] 27)) = w5 at S n1 n2 n3 n4 n5 n6 HH hS ⊢
          clear hKK KK
          try simp only [Act.put, List.setIfInBounds_toArray, List.set_cons_zero, List.set_cons_succ]
          refine rdyOp (i := 11) (by kernel_rfl) (opOf rfl) (fun KK hKK => ?_)
          go_simp; clear hS
          have H := S.hnew 27 [.bool false, .slice none 0 0, .int .i64 0]
          replace S := S.alloc 27 [.bool false, .slice none 0 0, .int .i64 0] (w5.heap.size)
          try simp only [List.cons_append, List.nil_append] at S
          replace n1 := n1.hold H; replace n2 := n2.hold H; replace n3 := n3.hold H; replace n4 := n4.hold H; replace n5 := n5.hold H; replace n6 := n6.hold H; replace HH := HH.trans H.to32; clear H
          refine hKK.out _ _ (con6 (S.c6 0 rfl) (S.c6 1 rfl)) (fun hS => ?_)
          generalize (w5.alloc (.cells #[.bool false, .slice none 0 0, .int .i64 0] 27)) = w6 at S n1 n2 n3 n4 n5 n6 HH hS ⊢
          clear hKK KK
          try simp only [Act.put, List.setIfInBounds_toArray, List.set_cons_zero, List.set_cons_succ]
          refine rdyOp (i := 12) (by kernel_rfl) (opOf rfl) (fun KK hKK => ?_)
          obtain ⟨c0, c1, c2⟩ := S.c3 3 rfl; obtain ⟨f0, f1, f2⟩ := S.f3 3 rfl
          go_simp; clear hS c0 f0 c1 f1 c2 f2
          have HP := S.put3 3 (.bool b5) (.slice p5 l5 K5) (.int .i64 e5) rfl rfl; have H := HP.2; replace S := HP.1; clear HP
          replace n1 := n1.hold32 H; replace n2 := n2.hold32 H; replace n3 := n3.hold32 H; replace n4 := n4.hold32 H; replace n5 := n5.hold32 H; replace n6 := n6.hold32 H; replace HH := HH.trans H; clear H
          refine hKK.out _ _ (con6 (S.c6 0 rfl) (S.c6 1 rfl)) (fun hS => ?_)
          generalize (((w6.setCell ⟨w4.heap.size, 0, none⟩ (.bool b5)).setCell ⟨w4.heap.size, 1, none⟩ (.slice p5 l5 K5)).setCell ⟨w4.heap.size, 2, none⟩ (.int .i64 e5)) = w7 at S n1 n2 n3 n4 n5 n6 HH hS ⊢
          clear hKK KK
          try simp only [Act.put, List.setIfInBounds_toArray, List.set_cons_zero, List.set_cons_succ]
          refine rdyOp (i := 13) (by kernel_rfl) (opOf rfl) (fun KK hKK => ?_)
          obtain ⟨c0, c1, c2⟩ := S.c3 4 rfl; obtain ⟨f0, f1, f2⟩ := S.f3 4 rfl
          go_simp; clear hS c0 f0 c1 f1 c2 f2
          have HP := S.put3 4 (.bool b6) (.slice p6 l6 K6) (.int .i64 e6) rfl rfl; have H := HP.2; replace S := HP.1; clear HP
          replace n1 := n1.hold32 H; replace n2 := n2.hold32 H; replace n3 := n3.hold32 H; replace n4 := n4.hold32 H; replace n5 := n5.hold32 H; replace n6 := n6.hold32 H; replace HH := HH.trans H; clear H
          refine hKK.out _ _ (con6 (S.c6 0 rfl) (S.c6 1 rfl)) (fun hS => ?_)
          generalize (((w7.setCell ⟨w5.heap.size, 0, none⟩ (.bool b6)).setCell ⟨w5.heap.size, 1, none⟩ (.slice p6 l6 K6)).setCell ⟨w5.heap.size, 2, none⟩ (.int .i64 e6)) = w8 at S n1 n2 n3 n4 n5 n6 HH hS ⊢
          clear hKK KK
          try simp only [Act.put, List.setIfInBounds_toArray, List.set_cons_zero, List.set_cons_succ]
          refine wpAnyH_done (by kernel_rfl) ?_ _
          go_wp2_with fail
          go_meet
          case rel => exact ⟨w4.heap.size, w5.heap.size, b5, p5, l5, K5, m5, e5, b6, p6, l6, K6, m6, e6, rfl, rfl, Su.of S [0, 1, 2, 3, 4] rfl, h5, n5, d5, h6, n6, d6, HH⟩
        ·
          go_simp; clear hS
          have H := S.hnew 27 [.bool false, .slice none 0 0, .int .i64 0]
          replace S := S.alloc 27 [.bool false, .slice none 0 0, .int .i64 0] (w4.heap.size)
          try simp only [List.cons_append, List.nil_append] at S
          replace n1 := n1.hold H; replace n2 := n2.hold H; replace n3 := n3.hold H; replace n4 := n4.hold H; replace n5 := n5.hold H; replace n6 := n6.hold H; replace HH := HH.trans H.to32; clear H
          refine hKK.out _ _ (con6 (S.c6 0 rfl) (S.c6 1 rfl)) (fun hS => ?_)
          generalize (w4.alloc (.cells #[.bool false, .slice none 0 0, .int .i64 0] 27)) = w9 at S n1 n2 n3 n4 n5 n6 HH hS ⊢
          clear hKK KK
          try simp only [Act.put, List.setIfInBounds_toArray, List.set_cons_zero, List.set_cons_succ]
          refine rdyOp (i := 10) (by kernel_rfl) (opOf rfl) (fun KK hKK => ?_)
          go_simp; clear hS
          have H := S.hnew 27 [.bool false, .slice none 0 0, .int .i64 0]
          replace S := S.alloc 27 [.bool false, .slice none 0 0, .int .i64 0] (w9.heap.size)
          try simp only [List.cons_append, List.nil_append] at S
          replace n1 := n1.hold H; replace n2 := n2.hold H; replace n3 := n3.hold H; replace n4 := n4.hold H; replace n5 := n5.hold H; replace n6 := n6.hold H; replace HH := HH.trans H.to32; clear H
          refine hKK.out _ _ (con6 (S.c6 0 rfl) (S.c6 1 rfl)) (fun hS => ?_)
          generalize (w9.alloc (.cells #[.bool false, .slice none 0 0, .int .i64 0] 27)) = w10 at S n1 n2 n3 n4 n5 n6 HH hS ⊢
          clear hKK KK
          try simp only [Act.put, List.setIfInBounds_toArray, List.set_cons_zero, List.set_cons_succ]
          refine rdyOp (i := 12) (by kernel_rfl) (opOf rfl) (fun KK hKK => ?_)
          obtain ⟨c0, c1, c2⟩ := S.c3 4 rfl; obtain ⟨f0, f1, f2⟩ := S.f3 4 rfl
          go_simp; clear hS c0 f0 c1 f1 c2 f2
          have HP := S.put3 4 (.bool b5) (.slice p5 l5 K5) (.int .i64 e5) rfl rfl; have H := HP.2; replace S := HP.1; clear HP
          replace n1 := n1.hold32 H; replace n2 := n2.hold32 H; replace n3 := n3.hold32 H; replace n4 := n4.hold32 H; replace n5 := n5.hold32 H; replace n6 := n6.hold32 H; replace HH := HH.trans H; clear H
          refine hKK.out _ _ (con6 (S.c6 0 rfl) (S.c6 1 rfl)) (fun hS => ?_)
          generalize (((w10.setCell ⟨w9.heap.size, 0, none⟩ (.bool b5)).setCell ⟨w9.heap.size, 1, none⟩ (.slice p5 l5 K5)).setCell ⟨w9.heap.size, 2, none⟩ (.int .i64 e5)) = w11 at S n1 n2 n3 n4 n5 n6 HH hS ⊢
          clear hKK KK
          try simp only [Act.put, List.setIfInBounds_toArray, List.set_cons_zero, List.set_cons_succ]
          refine rdyOp (i := 13) (by kernel_rfl) (opOf rfl) (fun KK hKK => ?_)
          obtain ⟨c0, c1, c2⟩ := S.c3 3 rfl; obtain ⟨f0, f1, f2⟩ := S.f3 3 rfl
          go_simp; clear hS c0 f0 c1 f1 c2 f2
          have HP := S.put3 3 (.bool b6) (.slice p6 l6 K6) (.int .i64 e6) rfl rfl; have H := HP.2; replace S := HP.1; clear HP
          replace n1 := n1.hold32 H; replace n2 := n2.hold32 H; replace n3 := n3.hold32 H; replace n4 := n4.hold32 H; replace n5 := n5.hold32 H; replace n6 := n6.hold32 H; replace HH := HH.trans H; clear H
          refine hKK.out _ _ (con6 (S.c6 0 rfl) (S.c6 1 rfl)) (fun hS => ?_)
          generalize (((w11.setCell ⟨w4.heap.size, 0, none⟩ (.bool b6)).setCell ⟨w4.heap.size, 1, none⟩ (.slice p6 l6 K6)).setCell ⟨w4.heap.size, 2, none⟩ (.int .i64 e6)) = w12 at S n1 n2 n3 n4 n5 n6 HH hS ⊢
          clear hKK KK
          try simp only [Act.put, List.setIfInBounds_toArray, List.set_cons_zero, List.set_cons_succ]
          refine wpAnyH_done (by kernel_rfl) ?_ _
          go_wp2_with fail
          go_meet
          case rel => exact ⟨w9.heap.size, w4.heap.size, b5, p5, l5, K5, m5, e5, b6, p6, l6, K6, m6, e6, rfl, rfl, Su.of S [0, 1, 2, 4, 3] rfl, h5, n5, d5, h6, n6, d6, HH⟩
      ·
        go_simp; clear hS
        have H := S.hnew 27 [.bool false, .slice none 0 0, .int .i64 0]
        replace S := S.alloc 27 [.bool false, .slice none 0 0, .int .i64 0] (w3.heap.size)
        try simp only [List.cons_append, List.nil_append] at S
        replace n1 := n1.hold H; replace n2 := n2.hold H; replace n3 := n3.hold H; replace n4 := n4.hold H; replace n5 := n5.hold H; replace HH := HH.trans H.to32; clear H
        refine hKK.out _ _ (con6 (S.c6 0 rfl) (S.c6 1 rfl)) (fun hS => ?_)
        generalize (w3.alloc (.cells #[.bool false, .slice none 0 0, .int .i64 0] 27)) = w13 at S n1 n2 n3 n4 n5 HH hS ⊢
        clear hKK KK
        try simp only [Act.put, List.setIfInBounds_toArray, List.set_cons_zero, List.set_cons_succ]
        refine wpAnyH_ready (rs := [9, 11]) (by kernel_rfl) (by simp) (AllReadyH.cons (opOf rfl) (fun KK hKK => ?_) (AllReadyH.cons (opOf rfl) (fun KK hKK => ?_) AllReadyH.nil))
        ·
          go_simp; clear hS
          refine (S.call (dmin_any ⟨b2, p2, l2, K2, m2, e2, rfl, h2, n2, d2⟩ ⟨b4, p4, l4, K4, m4, e4, rfl, h4, n4, d4⟩ HK.out)).mono ?_
          clear S
          rintro e w14 ⟨⟨_, rfl, b6, p6, l6, K6, m6, e6, rfl, h6, n6, d6⟩, S, H⟩
          replace n1 := n1.hold H; replace n2 := n2.hold H; replace n3 := n3.hold H; replace n4 := n4.hold H; replace n5 := n5.hold H; replace HH := HH.trans H.to32; clear H
          go_wp2_with fail
          refine hKK.out _ _ (con6 (S.c6 0 rfl) (S.c6 1 rfl)) (fun hS => ?_)
          clear hKK KK
          try simp only [Act.put, List.setIfInBounds_toArray, List.set_cons_zero, List.set_cons_succ]
          refine rdyOp (i := 11) (by kernel_rfl) (opOf rfl) (fun KK hKK => ?_)
          go_simp; clear hS
          have H := S.hnew 27 [.bool false, .slice none 0 0, .int .i64 0]
          replace S := S.alloc 27 [.bool false, .slice none 0 0, .int .i64 0] (w14.heap.size)
          try simp only [List.cons_append, List.nil_append] at S
          replace n1 := n1.hold H; replace n2 := n2.hold H; replace n3 := n3.hold H; replace n4 := n4.hold H; replace n5 := n5.hold H; replace n6 := n6.hold H; replace HH := HH.trans H.to32; clear H
          refine hKK.out _ _ (con6 (S.c6 0 rfl) (S.c6 1 rfl)) (fun hS => ?_)
          generalize (w14.alloc (.cells #[.bool false, .slice none 0 0, .int .i64 0] 27)) = w15 at S n1 n2 n3 n4 n5 n6 HH hS ⊢
          clear hKK KK
          try simp only [Act.put, List.setIfInBounds_toArray, List.set_cons_zero, List.set_cons_succ]
          refine rdyOp (i := 12) (by kernel_rfl) (opOf rfl) (fun KK hKK => ?_)
          obtain ⟨c0, c1, c2⟩ := S.c3 3 rfl; obtain ⟨f0, f1, f2⟩ := S.f3 3 rfl
          go_simp; clear hS c0 f0 c1 f1 c2 f2
          have HP := S.put3 3 (.bool b5) (.slice p5 l5 K5) (.int .i64 e5) rfl rfl; have H := HP.2; replace S := HP.1; clear HP
          replace n1 := n1.hold32 H; replace n2 := n2.hold32 H; replace n3 := n3.hold32 H; replace n4 := n4.hold32 H; replace n5 := n5.hold32 H; replace n6 := n6.hold32 H; replace HH := HH.trans H; clear H
          refine hKK.out _ _ (con6 (S.c6 0 rfl) (S.c6 1 rfl)) (fun hS => ?_)
          generalize (((w15.setCell ⟨w3.heap.size, 0, none⟩ (.bool b5)).setCell ⟨w3.heap.size, 1, none⟩ (.slice p5 l5 K5)).setCell ⟨w3.heap.size, 2, none⟩ (.int .i64 e5)) = w16 at S n1 n2 n3 n4 n5 n6 HH hS ⊢
          clear hKK KK
          try simp only [Act.put, List.setIfInBounds_toArray, List.set_cons_zero, List.set_cons_succ]
          refine rdyOp (i := 13) (by kernel_rfl) (opOf rfl) (fun KK hKK => ?_)
          obtain ⟨c0, c1, c2⟩ := S.c3 4 rfl; obtain ⟨f0, f1, f2⟩ := S.f3 4 rfl
          go_simp; clear hS c0 f0 c1 f1 c2 f2
          have HP := S.put3 4 (.bool b6) (.slice p6 l6 K6) (.int .i64 e6) rfl rfl; have H := HP.2; replace S := HP.1; clear HP
          replace n1 := n1.hold32 H; replace n2 := n2.hold32 H; replace n3 := n3.hold32 H; replace n4 := n4.hold32 H; replace n5 := n5.hold32 H; replace n6 := n6.hold32 H; replace HH := HH.trans H; clear H
          refine hKK.out _ _ (con6 (S.c6 0 rfl) (S.c6 1 rfl)) (fun hS => ?_)
          generalize (((w16.setCell ⟨w14.heap.size, 0, none⟩ (.bool b6)).setCell ⟨w14.heap.size, 1, none⟩ (.slice p6 l6 K6)).setCell ⟨w14.heap.size, 2, none⟩ (.int .i64 e6)) = w17 at S n1 n2 n3 n4 n5 n6 HH hS ⊢
          clear hKK KK
          try simp only [Act.put, List.setIfInBounds_toArray, List.set_cons_zero, List.set_cons_succ]
          refine wpAnyH_done (by kernel_rfl) ?_ _
          go_wp2_with fail
          go_meet
          case rel => exact ⟨w3.heap.size, w14.heap.size, b5, p5, l5, K5, m5, e5, b6, p6, l6, K6, m6, e6, rfl, rfl, Su.of S [0, 1, 2, 3, 4] rfl, h5, n5, d5, h6, n6, d6, HH⟩
        ·
          go_simp; clear hS
          have H := S.hnew 27 [.bool false, .slice none 0 0, .int .i64 0]
          replace S := S.alloc 27 [.bool false, .slice none 0 0, .int .i64 0] (w13.heap.size)
          try simp only [List.cons_append, List.nil_append] at S
          replace n1 := n1.hold H; replace n2 := n2.hold H; replace n3 := n3.hold H; replace n4 := n4.hold H; replace n5 := n5.hold H; replace HH := HH.trans H.to32; clear H
          refine hKK.out _ _ (con6 (S.c6 0 rfl) (S.c6 1 rfl)) (fun hS => ?_)
          generalize (w13.alloc (.cells #[.bool false, .slice none 0 0, .int .i64 0] 27)) = w18 at S n1 n2 n3 n4 n5 HH hS ⊢
          clear hKK KK
          try simp only [Act.put, List.setIfInBounds_toArray, List.set_cons_zero, List.set_cons_succ]
          refine rdyOp (i := 9) (by kernel_rfl) (opOf rfl) (fun KK hKK => ?_)
          go_simp; clear hS
          refine (S.call (dmin_any ⟨b2, p2, l2, K2, m2, e2, rfl, h2, n2, d2⟩ ⟨b4, p4, l4, K4, m4, e4, rfl, h4, n4, d4⟩ HK.out)).mono ?_
          clear S
          rintro e w19 ⟨⟨_, rfl, b6, p6, l6, K6, m6, e6, rfl, h6, n6, d6⟩, S, H⟩
          replace n1 := n1.hold H; replace n2 := n2.hold H; replace n3 := n3.hold H; replace n4 := n4.hold H; replace n5 := n5.hold H; replace HH := HH.trans H.to32; clear H
          go_wp2_with fail
          refine hKK.out _ _ (con6 (S.c6 0 rfl) (S.c6 1 rfl)) (fun hS => ?_)
          clear hKK KK
          try simp only [Act.put, List.setIfInBounds_toArray, List.set_cons_zero, List.set_cons_succ]
          refine rdyOp (i := 12) (by kernel_rfl) (opOf rfl) (fun KK hKK => ?_)
          obtain ⟨c0, c1, c2⟩ := S.c3 3 rfl; obtain ⟨f0, f1, f2⟩ := S.f3 3 rfl
          go_simp; clear hS c0 f0 c1 f1 c2 f2
          have HP := S.put3 3 (.bool b5) (.slice p5 l5 K5) (.int .i64 e5) rfl rfl; have H := HP.2; replace S := HP.1; clear HP
          replace n1 := n1.hold32 H; replace n2 := n2.hold32 H; replace n3 := n3.hold32 H; replace n4 := n4.hold32 H; replace n5 := n5.hold32 H; replace n6 := n6.hold32 H; replace HH := HH.trans H; clear H
          refine hKK.out _ _ (con6 (S.c6 0 rfl) (S.c6 1 rfl)) (fun hS => ?_)
          generalize (((w19.setCell ⟨w3.heap.size, 0, none⟩ (.bool b5)).setCell ⟨w3.heap.size, 1, none⟩ (.slice p5 l5 K5)).setCell ⟨w3.heap.size, 2, none⟩ (.int .i64 e5)) = w20 at S n1 n2 n3 n4 n5 n6 HH hS ⊢
          clear hKK KK
          try simp only [Act.put, List.setIfInBounds_toArray, List.set_cons_zero, List.set_cons_succ]
          refine rdyOp (i := 13) (by kernel_rfl) (opOf rfl) (fun KK hKK => ?_)
          obtain ⟨c0, c1, c2⟩ := S.c3 4 rfl; obtain ⟨f0, f1, f2⟩ := S.f3 4 rfl
          go_simp; clear hS c0 f0 c1 f1 c2 f2
          have HP := S.put3 4 (.bool b6) (.slice p6 l6 K6) (.int .i64 e6) rfl rfl; have H := HP.2; replace S := HP.1; clear HP
          replace n1 := n1.hold32 H; replace n2 := n2.hold32 H; replace n3 := n3.hold32 H; replace n4 := n4.hold32 H; replace n5 := n5.hold32 H; replace n6 := n6.hold32 H; replace HH := HH.trans H; clear H
          refine hKK.out _ _ (con6 (S.c6 0 rfl) (S.c6 1 rfl)) (fun hS => ?_)
          generalize (((w20.setCell ⟨w13.heap.size, 0, none⟩ (.bool b6)).setCell ⟨w13.heap.size, 1, none⟩ (.slice p6 l6 K6)).setCell ⟨w13.heap.size, 2, none⟩ (.int .i64 e6)) = w21 at S n1 n2 n3 n4 n5 n6 HH hS ⊢
          clear hKK KK
          try simp only [Act.put, List.setIfInBounds_toArray, List.set_cons_zero, List.set_cons_succ]
          refine wpAnyH_done (by kernel_rfl) ?_ _
          go_wp2_with fail
          go_meet
          case rel => exact ⟨w3.heap.size, w13.heap.size, b5, p5, l5, K5, m5, e5, b6, p6, l6, K6, m6, e6, rfl, rfl, Su.of S [0, 1, 2, 3, 4] rfl, h5, n5, d5, h6, n6, d6, HH⟩
      ·
        go_simp; clear hS
        have H := S.hnew 27 [.bool false, .slice none 0 0, .int .i64 0]
        replace S := S.alloc 27 [.bool false, .slice none 0 0, .int .i64 0] (w3.heap.size)
        try simp only [List.cons_append, List.nil_append] at S
        replace n1 := n1.hold H; replace n2 := n2.hold H; replace n3 := n3.hold H; replace n4 := n4.hold H; replace n5 := n5.hold H; replace HH := HH.trans H.to32; clear H
        refine hKK.out _ _ (con6 (S.c6 0 rfl) (S.c6 1 rfl)) (fun hS => ?_)
        generalize (w3.alloc (.cells #[.bool false, .slice none 0 0, .int .i64 0] 27)) = w22 at S n1 n2 n3 n4 n5 HH hS ⊢
        clear hKK KK
        try simp only [Act.put, List.setIfInBounds_toArray, List.set_cons_zero, List.set_cons_succ]
        refine wpAnyH_ready (rs := [9, 10]) (by kernel_rfl) (by simp) (AllReadyH.cons (opOf rfl) (fun KK hKK => ?_) (AllReadyH.cons (opOf rfl) (fun KK hKK => ?_) AllReadyH.nil))
        ·
          go_simp; clear hS
          refine (S.call (dmin_any ⟨b2, p2, l2, K2, m2, e2, rfl, h2, n2, d2⟩ ⟨b4, p4, l4, K4, m4, e4, rfl, h4, n4, d4⟩ HK.out)).mono ?_
          clear S
          rintro e w23 ⟨⟨_, rfl, b6, p6, l6, K6, m6, e6, rfl, h6, n6, d6⟩, S, H⟩
          replace n1 := n1.hold H; replace n2 := n2.hold H; replace n3 := n3.hold H; replace n4 := n4.hold H; replace n5 := n5.hold H; replace HH := HH.trans H.to32; clear H
          go_wp2_with fail
          refine hKK.out _ _ (con6 (S.c6 0 rfl) (S.c6 1 rfl)) (fun hS => ?_)
          clear hKK KK
          try simp only [Act.put, List.setIfInBounds_toArray, List.set_cons_zero, List.set_cons_succ]
          refine rdyOp (i := 10) (by kernel_rfl) (opOf rfl) (fun KK hKK => ?_)
          go_simp; clear hS
          have H := S.hnew 27 [.bool false, .slice none 0 0, .int .i64 0]
          replace S := S.alloc 27 [.bool false, .slice none 0 0, .int .i64 0] (w23.heap.size)
          try simp only [List.cons_append, List.nil_append] at S
          replace n1 := n1.hold H; replace n2 := n2.hold H; replace n3 := n3.hold H; replace n4 := n4.hold H; replace n5 := n5.hold H; replace n6 := n6.hold H; replace HH := HH.trans H.to32; clear H
          refine hKK.out _ _ (con6 (S.c6 0 rfl) (S.c6 1 rfl)) (fun hS => ?_)
          generalize (w23.alloc (.cells #[.bool false, .slice none 0 0, .int .i64 0] 27)) = w24 at S n1 n2 n3 n4 n5 n6 HH hS ⊢
          clear hKK KK
          try simp only [Act.put, List.setIfInBounds_toArray, List.set_cons_zero, List.set_cons_succ]
          refine rdyOp (i := 12) (by kernel_rfl) (opOf rfl) (fun KK hKK => ?_)
          obtain ⟨c0, c1, c2⟩ := S.c3 4 rfl; obtain ⟨f0, f1, f2⟩ := S.f3 4 rfl
          go_simp; clear hS c0 f0 c1 f1 c2 f2
          have HP := S.put3 4 (.bool b5) (.slice p5 l5 K5) (.int .i64 e5) rfl rfl; have H := HP.2; replace S := HP.1; clear HP
          replace n1 := n1.hold32 H; replace n2 := n2.hold32 H; replace n3 := n3.hold32 H; replace n4 := n4.hold32 H; replace n5 := n5.hold32 H; replace n6 := n6.hold32 H; replace HH := HH.trans H; clear H
          refine hKK.out _ _ (con6 (S.c6 0 rfl) (S.c6 1 rfl)) (fun hS => ?_)
          generalize (((w24.setCell ⟨w23.heap.size, 0, none⟩ (.bool b5)).setCell ⟨w23.heap.size, 1, none⟩ (.slice p5 l5 K5)).setCell ⟨w23.heap.size, 2, none⟩ (.int .i64 e5)) = w25 at S n1 n2 n3 n4 n5 n6 HH hS ⊢
          clear hKK KK
          try simp only [Act.put, List.setIfInBounds_toArray, List.set_cons_zero, List.set_cons_succ]
          refine rdyOp (i := 13) (by kernel_rfl) (opOf rfl) (fun KK hKK => ?_)
          obtain ⟨c0, c1, c2⟩ := S.c3 3 rfl; obtain ⟨f0, f1, f2⟩ := S.f3 3 rfl
          go_simp; clear hS c0 f0 c1 f1 c2 f2
          have HP := S.put3 3 (.bool b6) (.slice p6 l6 K6) (.int .i64 e6) rfl rfl; have H := HP.2; replace S := HP.1; clear HP
          replace n1 := n1.hold32 H; replace n2 := n2.hold32 H; replace n3 := n3.hold32 H; replace n4 := n4.hold32 H; replace n5 := n5.hold32 H; replace n6 := n6.hold32 H; replace HH := HH.trans H; clear H
          refine hKK.out _ _ (con6 (S.c6 0 rfl) (S.c6 1 rfl)) (fun hS => ?_)
          generalize (((w25.setCell ⟨w3.heap.size, 0, none⟩ (.bool b6)).setCell ⟨w3.heap.size, 1, none⟩ (.slice p6 l6 K6)).setCell ⟨w3.heap.size, 2, none⟩ (.int .i64 e6)) = w26 at S n1 n2 n3 n4 n5 n6 HH hS ⊢
          clear hKK KK
          try simp only [Act.put, List.setIfInBounds_toArray, List.set_cons_zero, List.set_cons_succ]
          refine wpAnyH_done (by kernel_rfl) ?_ _
          go_wp2_with fail
          go_meet
          case rel => exact ⟨w23.heap.size, w3.heap.size, b5, p5, l5, K5, m5, e5, b6, p6, l6, K6, m6, e6, rfl, rfl, Su.of S [0, 1, 2, 4, 3] rfl, h5, n5, d5, h6, n6, d6, HH⟩
        ·
          go_simp; clear hS
          have H := S.hnew 27 [.bool false, .slice none 0 0, .int .i64 0]
          replace S := S.alloc 27 [.bool false, .slice none 0 0, .int .i64 0] (w22.heap.size)
          try simp only [List.cons_append, List.nil_append] at S
          replace n1 := n1.hold H; replace n2 := n2.hold H; replace n3 := n3.hold H; replace n4 := n4.hold H; replace n5 := n5.hold H; replace HH := HH.trans H.to32; clear H
          refine hKK.out _ _ (con6 (S.c6 0 rfl) (S.c6 1 rfl)) (fun hS => ?_)
          generalize (w22.alloc (.cells #[.bool false, .slice none 0 0, .int .i64 0] 27)) = w27 at S n1 n2 n3 n4 n5 HH hS ⊢
          clear hKK KK
          try simp only [Act.put, List.setIfInBounds_toArray, List.set_cons_zero, List.set_cons_succ]
          refine rdyOp (i := 9) (by kernel_rfl) (opOf rfl) (fun KK hKK => ?_)
          go_simp; clear hS
          refine (S.call (dmin_any ⟨b2, p2, l2, K2, m2, e2, rfl, h2, n2, d2⟩ ⟨b4, p4, l4, K4, m4, e4, rfl, h4, n4, d4⟩ HK.out)).mono ?_
          clear S
          rintro e w28 ⟨⟨_, rfl, b6, p6, l6, K6, m6, e6, rfl, h6, n6, d6⟩, S, H⟩
          replace n1 := n1.hold H; replace n2 := n2.hold H; replace n3 := n3.hold H; replace n4 := n4.hold H; replace n5 := n5.hold H; replace HH := HH.trans H.to32; clear H
          go_wp2_with fail
          refine hKK.out _ _ (con6 (S.c6 0 rfl) (S.c6 1 rfl)) (fun hS => ?_)
          clear hKK KK
          try simp only [Act.put, List.setIfInBounds_toArray, List.set_cons_zero, List.set_cons_succ]
          refine rdyOp (i := 12) (by kernel_rfl) (opOf rfl) (fun KK hKK => ?_)
          obtain ⟨c0, c1, c2⟩ := S.c3 4 rfl; obtain ⟨f0, f1, f2⟩ := S.f3 4 rfl
          go_simp; clear hS c0 f0 c1 f1 c2 f2
          have HP := S.put3 4 (.bool b5) (.slice p5 l5 K5) (.int .i64 e5) rfl rfl; have H := HP.2; replace S := HP.1; clear HP
          replace n1 := n1.hold32 H; replace n2 := n2.hold32 H; replace n3 := n3.hold32 H; replace n4 := n4.hold32 H; replace n5 := n5.hold32 H; replace n6 := n6.hold32 H; replace HH := HH.trans H; clear H
          refine hKK.out _ _ (con6 (S.c6 0 rfl) (S.c6 1 rfl)) (fun hS => ?_)
          generalize (((w28.setCell ⟨w22.heap.size, 0, none⟩ (.bool b5)).setCell ⟨w22.heap.size, 1, none⟩ (.slice p5 l5 K5)).setCell ⟨w22.heap.size, 2, none⟩ (.int .i64 e5)) = w29 at S n1 n2 n3 n4 n5 n6 HH hS ⊢
          clear hKK KK
          try simp only [Act.put, List.setIfInBounds_toArray, List.set_cons_zero, List.set_cons_succ]
          refine rdyOp (i := 13) (by kernel_rfl) (opOf rfl) (fun KK hKK => ?_)
          obtain ⟨c0, c1, c2⟩ := S.c3 3 rfl; obtain ⟨f0, f1, f2⟩ := S.f3 3 rfl
          go_simp; clear hS c0 f0 c1 f1 c2 f2
          have HP := S.put3 3 (.bool b6) (.slice p6 l6 K6) (.int .i64 e6) rfl rfl; have H := HP.2; replace S := HP.1; clear HP
          replace n1 := n1.hold32 H; replace n2 := n2.hold32 H; replace n3 := n3.hold32 H; replace n4 := n4.hold32 H; replace n5 := n5.hold32 H; replace n6 := n6.hold32 H; replace HH := HH.trans H; clear H
          refine hKK.out _ _ (con6 (S.c6 0 rfl) (S.c6 1 rfl)) (fun hS => ?_)
          generalize (((w29.setCell ⟨w3.heap.size, 0, none⟩ (.bool b6)).setCell ⟨w3.heap.size, 1, none⟩ (.slice p6 l6 K6)).setCell ⟨w3.heap.size, 2, none⟩ (.int .i64 e6)) = w30 at S n1 n2 n3 n4 n5 n6 HH hS ⊢
          clear hKK KK
          try simp only [Act.put, List.setIfInBounds_toArray, List.set_cons_zero, List.set_cons_succ]
          refine wpAnyH_done (by kernel_rfl) ?_ _
          go_wp2_with fail
          go_meet
          case rel => exact ⟨w22.heap.size, w3.heap.size, b5, p5, l5, K5, m5, e5, b6, p6, l6, K6, m6, e6, rfl, rfl, Su.of S [0, 1, 2, 4, 3] rfl, h5, n5, d5, h6, n6, d6, HH⟩
    ·
      go_simp; clear hS
      have H := S.hnew 27 [.bool false, .slice none 0 0, .int .i64 0]
      replace S := S.alloc 27 [.bool false, .slice none 0 0, .int .i64 0] (w2.heap.size)
      try simp only [List.cons_append, List.nil_append] at S
      replace n1 := n1.hold H; replace n2 := n2.hold H; replace n3 := n3.hold H; replace n4 := n4.hold H; replace HH := HH.trans H.to32; clear H
      refine hKK.out _ _ (con6 (S.c6 0 rfl) (S.c6 1 rfl)) (fun hS => ?_)
      generalize (w2.alloc (.cells #[.bool false, .slice none 0 0, .int .i64 0] 27)) = w31 at S n1 n2 n3 n4 HH hS ⊢
      clear hKK KK
      try simp only [Act.put, List.setIfInBounds_toArray, List.set_cons_zero, List.set_cons_succ]
      refine wpAnyH_ready (rs := [4, 11]) (by kernel_rfl) (by simp) (AllReadyH.cons (opOf rfl) (fun KK hKK => ?_) (AllReadyH.cons (opOf rfl) (fun KK hKK => ?_) AllReadyH.nil))
      ·
        go_simp; clear hS
        refine (S.call (dmax_any ⟨b1, p1, l1, K1, m1, e1, rfl, h1, n1, d1⟩ ⟨b3, p3, l3, K3, m3, e3, rfl, h3, n3, d3⟩ HK.out)).mono ?_
        clear S
        rintro e w32 ⟨⟨_, rfl, b5, p5, l5, K5, m5, e5, rfl, h5, n5, d5⟩, S, H⟩
        replace n1 := n1.hold H; replace n2 := n2.hold H; replace n3 := n3.hold H; replace n4 := n4.hold H; replace HH := HH.trans H.to32; clear H
        go_wp2_with fail
        refine hKK.out _ _ (con6 (S.c6 0 rfl) (S.c6 1 rfl)) (fun hS => ?_)
        clear hKK KK
        try simp only [Act.put, List.setIfInBounds_toArray, List.set_cons_zero, List.set_cons_succ]
        refine wpAnyH_ready (rs := [9, 11]) (by kernel_rfl) (by simp) (AllReadyH.cons (opOf rfl) (fun KK hKK => ?_) (AllReadyH.cons (opOf rfl) (fun KK hKK => ?_) AllReadyH.nil))
        ·
          go_simp; clear hS
          refine (S.call (dmin_any ⟨b2, p2, l2, K2, m2, e2, rfl, h2, n2, d2⟩ ⟨b4, p4, l4, K4, m4, e4, rfl, h4, n4, d4⟩ HK.out)).mono ?_
          clear S
          rintro e w33 ⟨⟨_, rfl, b6, p6, l6, K6, m6, e6, rfl, h6, n6, d6⟩, S, H⟩
          replace n1 := n1.hold H; replace n2 := n2.hold H; replace n3 := n3.hold H; replace n4 := n4.hold H; replace n5 := n5.hold H; replace HH := HH.trans H.to32; clear H
          go_wp2_with fail
          refine hKK.out _ _ (con6 (S.c6 0 rfl) (S.c6 1 rfl)) (fun hS => ?_)
          clear hKK KK
          try simp only [Act.put, List.setIfInBounds_toArray, List.set_cons_zero, List.set_cons_succ]
          refine rdyOp (i := 11) (by kernel_rfl) (opOf rfl) (fun KK hKK => ?_)
          go_simp; clear hS
          have H := S.hnew 27 [.bool false, .slice none 0 0, .int .i64 0]
          replace S := S.alloc 27 [.bool false, .slice none 0 0, .int .i64 0] (w33.heap.size)
          try simp only [List.cons_append, List.nil_append] at S
          replace n1 := n1.hold H; replace n2 := n2.hold H; replace n3 := n3.hold H; replace n4 := n4.hold H; replace n5 := n5.hold H; replace n6 := n6.hold H; replace HH := HH.trans H.to32; clear H
          refine hKK.out _ _ (con6 (S.c6 0 rfl) (S.c6 1 rfl)) (fun hS => ?_)
          generalize (w33.alloc (.cells #[.bool false, .slice none 0 0, .int .i64 0] 27)) = w34 at S n1 n2 n3 n4 n5 n6 HH hS ⊢
          clear hKK KK
          try simp only [Act.put, List.setIfInBounds_toArray, List.set_cons_zero, List.set_cons_succ]
          refine rdyOp (i := 12) (by kernel_rfl) (opOf rfl) (fun KK hKK => ?_)
          obtain ⟨c0, c1, c2⟩ := S.c3 3 rfl; obtain ⟨f0, f1, f2⟩ := S.f3 3 rfl
          go_simp; clear hS c0 f0 c1 f1 c2 f2
          have HP := S.put3 3 (.bool b5) (.slice p5 l5 K5) (.int .i64 e5) rfl rfl; have H := HP.2; replace S := HP.1; clear HP
          replace n1 := n1.hold32 H; replace n2 := n2.hold32 H; replace n3 := n3.hold32 H; replace n4 := n4.hold32 H; replace n5 := n5.hold32 H; replace n6 := n6.hold32 H; replace HH := HH.trans H; clear H
          refine hKK.out _ _ (con6 (S.c6 0 rfl) (S.c6 1 rfl)) (fun hS => ?_)
          generalize (((w34.setCell ⟨w2.heap.size, 0, none⟩ (.bool b5)).setCell ⟨w2.heap.size, 1, none⟩ (.slice p5 l5 K5)).setCell ⟨w2.heap.size, 2, none⟩ (.int .i64 e5)) = w35 at S n1 n2 n3 n4 n5 n6 HH hS ⊢
          clear hKK KK
          try simp only [Act.put, List.setIfInBounds_toArray, List.set_cons_zero, List.set_cons_succ]
          refine rdyOp (i := 13) (by kernel_rfl) (opOf rfl) (fun KK hKK => ?_)
          obtain ⟨c0, c1, c2⟩ := S.c3 4 rfl; obtain ⟨f0, f1, f2⟩ := S.f3 4 rfl
          go_simp; clear hS c0 f0 c1 f1 c2 f2
          have HP := S.put3 4 (.bool b6) (.slice p6 l6 K6) (.int .i64 e6) rfl rfl; have H := HP.2; replace S := HP.1; clear HP
          replace n1 := n1.hold32 H; replace n2 := n2.hold32 H; replace n3 := n3.hold32 H; replace n4 := n4.hold32 H; replace n5 := n5.hold32 H; replace n6 := n6.hold32 H; replace HH := HH.trans H; clear H
          refine hKK.out _ _ (con6 (S.c6 0 rfl) (S.c6 1 rfl)) (fun hS => ?_)
          generalize (((w35.setCell ⟨w33.heap.size, 0, none⟩ (.bool b6)).setCell ⟨w33.heap.size, 1, none⟩ (.slice p6 l6 K6)).setCell ⟨w33.heap.size, 2, none⟩ (.int .i64 e6)) = w36 at S n1 n2 n3 n4 n5 n6 HH hS ⊢
          clear hKK KK
          try simp only [Act.put, List.setIfInBounds_toArray, List.set_cons_zero, List.set_cons_succ]
          refine wpAnyH_done (by kernel_rfl) ?_ _
          go_wp2_with fail
          go_meet
          case rel => exact ⟨w2.heap.size, w33.heap.size, b5, p5, l5, K5, m5, e5, b6, p6, l6, K6, m6, e6, rfl, rfl, Su.of S [0, 1, 2, 3, 4] rfl, h5, n5, d5, h6, n6, d6, HH⟩
        ·
          go_simp; clear hS
          have H := S.hnew 27 [.bool false, .slice none 0 0, .int .i64 0]
          replace S := S.alloc 27 [.bool false, .slice none 0 0, .int .i64 0] (w32.heap.size)
          try simp only [List.cons_append, List.nil_append] at S
          replace n1 := n1.hold H; replace n2 := n2.hold H; replace n3 := n3.hold H; replace n4 := n4.hold H; replace n5 := n5.hold H; replace HH := HH.trans H.to32; clear H
          refine hKK.out _ _ (con6 (S.c6 0 rfl) (S.c6 1 rfl)) (fun hS => ?_)
          generalize (w32.alloc (.cells #[.bool false, .slice none 0 0, .int .i64 0] 27)) = w37 at S n1 n2 n3 n4 n5 HH hS ⊢
          clear hKK KK
          try simp only [Act.put, List.setIfInBounds_toArray, List.set_cons_zero, List.set_cons_succ]
          refine rdyOp (i := 9) (by kernel_rfl) (opOf rfl) (fun KK hKK => ?_)
          go_simp; clear hS
          refine (S.call (dmin_any ⟨b2, p2, l2, K2, m2, e2, rfl, h2, n2, d2⟩ ⟨b4, p4, l4, K4, m4, e4, rfl, h4, n4, d4⟩ HK.out)).mono ?_
          clear S
          rintro e w38 ⟨⟨_, rfl, b6, p6, l6, K6, m6, e6, rfl, h6, n6, d6⟩, S, H⟩
          replace n1 := n1.hold H; replace n2 := n2.hold H; replace n3 := n3.hold H; replace n4 := n4.hold H; replace n5 := n5.hold H; replace HH := HH.trans H.to32; clear H
          go_wp2_with fail
          refine hKK.out _ _ (con6 (S.c6 0 rfl) (S.c6 1 rfl)) (fun hS => ?_)
          clear hKK KK
          try simp only [Act.put, List.setIfInBounds_toArray, List.set_cons_zero, List.set_cons_succ]
          refine rdyOp (i := 12) (by kernel_rfl) (opOf rfl) (fun KK hKK => ?_)
          obtain ⟨c0, c1, c2⟩ := S.c3 3 rfl; obtain ⟨f0, f1, f2⟩ := S.f3 3 rfl
          go_simp; clear hS c0 f0 c1 f1 c2 f2
          have HP := S.put3 3 (.bool b5) (.slice p5 l5 K5) (.int .i64 e5) rfl rfl; have H := HP.2; replace S := HP.1; clear HP
          replace n1 := n1.hold32 H; replace n2 := n2.hold32 H; replace n3 := n3.hold32 H; replace n4 := n4.hold32 H; replace n5 := n5.hold32 H; replace n6 := n6.hold32 H; replace HH := HH.trans H; clear H
          refine hKK.out _ _ (con6 (S.c6 0 rfl) (S.c6 1 rfl)) (fun hS => ?_)
          generalize (((w38.setCell ⟨w2.heap.size, 0, none⟩ (.bool b5)).setCell ⟨w2.heap.size, 1, none⟩ (.slice p5 l5 K5)).setCell ⟨w2.heap.size, 2, none⟩ (.int .i64 e5)) = w39 at S n1 n2 n3 n4 n5 n6 HH hS ⊢
          clear hKK KK
          try simp only [Act.put, List.setIfInBounds_toArray, List.set_cons_zero, List.set_cons_succ]
          refine rdyOp (i := 13) (by kernel_rfl) (opOf rfl) (fun KK hKK => ?_)
          obtain ⟨c0, c1, c2⟩ := S.c3 4 rfl; obtain ⟨f0, f1, f2⟩ := S.f3 4 rfl
          go_simp; clear hS c0 f0 c1 f1 c2 f2
          have HP := S.put3 4 (.bool b6) (.slice p6 l6 K6) (.int .i64 e6) rfl rfl; have H := HP.2; replace S := HP.1; clear HP
          replace n1 := n1.hold32 H; replace n2 := n2.hold32 H; replace n3 := n3.hold32 H; replace n4 := n4.hold32 H; replace n5 := n5.hold32 H; replace n6 := n6.hold32 H; replace HH := HH.trans H; clear H
          refine hKK.out _ _ (con6 (S.c6 0 rfl) (S.c6 1 rfl)) (fun hS => ?_)
          generalize (((w39.setCell ⟨w32.heap.size, 0, none⟩ (.bool b6)).setCell ⟨w32.heap.size, 1, none⟩ (.slice p6 l6 K6)).setCell ⟨w32.heap.size, 2, none⟩ (.int .i64 e6)) = w40 at S n1 n2 n3 n4 n5 n6 HH hS ⊢
          clear hKK KK
          try simp only [Act.put, List.setIfInBounds_toArray, List.set_cons_zero, List.set_cons_succ]
          refine wpAnyH_done (by kernel_rfl) ?_ _
          go_wp2_with fail
          go_meet
          case rel => exact ⟨w2.heap.size, w32.heap.size, b5, p5, l5, K5, m5, e5, b6, p6, l6, K6, m6, e6, rfl, rfl, Su.of S [0, 1, 2, 3, 4] rfl, h5, n5, d5, h6, n6, d6, HH⟩
      ·
        go_simp; clear hS
        have H := S.hnew 27 [.bool false, .slice none 0 0, .int .i64 0]
        replace S := S.alloc 27 [.bool false, .slice none 0 0, .int .i64 0] (w31.heap.size)
        try simp only [List.cons_append, List.nil_append] at S
        replace n1 := n1.hold H; replace n2 := n2.hold H; replace n3 := n3.hold H; replace n4 := n4.hold H; replace HH := HH.trans H.to32; clear H
        refine hKK.out _ _ (con6 (S.c6 0 rfl) (S.c6 1 rfl)) (fun hS => ?_)
        generalize (w31.alloc (.cells #[.bool false, .slice none 0 0, .int .i64 0] 27)) = w41 at S n1 n2 n3 n4 HH hS ⊢
        clear hKK KK
        try simp only [Act.put, List.setIfInBounds_toArray, List.set_cons_zero, List.set_cons_succ]
        refine rdyOp (i := 4) (by kernel_rfl) (opOf rfl) (fun KK hKK => ?_)
        go_simp; clear hS
        refine (S.call (dmax_any ⟨b1, p1, l1, K1, m1, e1, rfl, h1, n1, d1⟩ ⟨b3, p3, l3, K3, m3, e3, rfl, h3, n3, d3⟩ HK.out)).mono ?_
        clear S
        rintro e w42 ⟨⟨_, rfl, b5, p5, l5, K5, m5, e5, rfl, h5, n5, d5⟩, S, H⟩
        replace n1 := n1.hold H; replace n2 := n2.hold H; replace n3 := n3.hold H; replace n4 := n4.hold H; replace HH := HH.trans H.to32; clear H
        go_wp2_with fail
        refine hKK.out _ _ (con6 (S.c6 0 rfl) (S.c6 1 rfl)) (fun hS => ?_)
        clear hKK KK
        try simp only [Act.put, List.setIfInBounds_toArray, List.set_cons_zero, List.set_cons_succ]
        refine rdyOp (i := 9) (by kernel_rfl) (opOf rfl) (fun KK hKK => ?_)
        go_simp; clear hS
        refine (S.call (dmin_any ⟨b2, p2, l2, K2, m2, e2, rfl, h2, n2, d2⟩ ⟨b4, p4, l4, K4, m4, e4, rfl, h4, n4, d4⟩ HK.out)).mono ?_
        clear S
        rintro e w43 ⟨⟨_, rfl, b6, p6, l6, K6, m6, e6, rfl, h6, n6, d6⟩, S, H⟩
        replace n1 := n1.hold H; replace n2 := n2.hold H; replace n3 := n3.hold H; replace n4 := n4.hold H; replace n5 := n5.hold H; replace HH := HH.trans H.to32; clear H
        go_wp2_with fail
        refine hKK.out _ _ (con6 (S.c6 0 rfl) (S.c6 1 rfl)) (fun hS => ?_)
        clear hKK KK
        try simp only [Act.put, List.setIfInBounds_toArray, List.set_cons_zero, List.set_cons_succ]
        refine rdyOp (i := 12) (by kernel_rfl) (opOf rfl) (fun KK hKK => ?_)
        obtain ⟨c0, c1, c2⟩ := S.c3 3 rfl; obtain ⟨f0, f1, f2⟩ := S.f3 3 rfl
        go_simp; clear hS c0 f0 c1 f1 c2 f2
        have HP := S.put3 3 (.bool b5) (.slice p5 l5 K5) (.int .i64 e5) rfl rfl; have H := HP.2; replace S := HP.1; clear HP
        replace n1 := n1.hold32 H; replace n2 := n2.hold32 H; replace n3 := n3.hold32 H; replace n4 := n4.hold32 H; replace n5 := n5.hold32 H; replace n6 := n6.hold32 H; replace HH := HH.trans H; clear H
        refine hKK.out _ _ (con6 (S.c6 0 rfl) (S.c6 1 rfl)) (fun hS => ?_)
        generalize (((w43.setCell ⟨w2.heap.size, 0, none⟩ (.bool b5)).setCell ⟨w2.heap.size, 1, none⟩ (.slice p5 l5 K5)).setCell ⟨w2.heap.size, 2, none⟩ (.int .i64 e5)) = w44 at S n1 n2 n3 n4 n5 n6 HH hS ⊢
        clear hKK KK
        try simp only [Act.put, List.setIfInBounds_toArray, List.set_cons_zero, List.set_cons_succ]
        refine rdyOp (i := 13) (by kernel_rfl) (opOf rfl) (fun KK hKK => ?_)
        obtain ⟨c0, c1, c2⟩ := S.c3 4 rfl; obtain ⟨f0, f1, f2⟩ := S.f3 4 rfl
        go_simp; clear hS c0 f0 c1 f1 c2 f2
        have HP := S.put3 4 (.bool b6) (.slice p6 l6 K6) (.int .i64 e6) rfl rfl; have H := HP.2; replace S := HP.1; clear HP
        replace n1 := n1.hold32 H; replace n2 := n2.hold32 H; replace n3 := n3.hold32 H; replace n4 := n4.hold32 H; replace n5 := n5.hold32 H; replace n6 := n6.hold32 H; replace HH := HH.trans H; clear H
        refine hKK.out _ _ (con6 (S.c6 0 rfl) (S.c6 1 rfl)) (fun hS => ?_)
        generalize (((w44.setCell ⟨w31.heap.size, 0, none⟩ (.bool b6)).setCell ⟨w31.heap.size, 1, none⟩ (.slice p6 l6 K6)).setCell ⟨w31.heap.size, 2, none⟩ (.int .i64 e6)) = w45 at S n1 n2 n3 n4 n5 n6 HH hS ⊢
        clear hKK KK
        try simp only [Act.put, List.setIfInBounds_toArray, List.set_cons_zero, List.set_cons_succ]
        refine wpAnyH_done (by kernel_rfl) ?_ _
        go_wp2_with fail
        go_meet
        case rel => exact ⟨w2.heap.size, w31.heap.size, b5, p5, l5, K5, m5, e5, b6, p6, l6, K6, m6, e6, rfl, rfl, Su.of S [0, 1, 2, 3, 4] rfl, h5, n5, d5, h6, n6, d6, HH⟩
    ·
      go_simp; clear hS
      have H := S.hnew 27 [.bool false, .slice none 0 0, .int .i64 0]
      replace S := S.alloc 27 [.bool false, .slice none 0 0, .int .i64 0] (w2.heap.size)
      try simp only [List.cons_append, List.nil_append] at S
      replace n1 := n1.hold H; replace n2 := n2.hold H; replace n3 := n3.hold H; replace n4 := n4.hold H; replace HH := HH.trans H.to32; clear H
      refine hKK.out _ _ (con6 (S.c6 0 rfl) (S.c6 1 rfl)) (fun hS => ?_)
      generalize (w2.alloc (.cells #[.bool false, .slice none 0 0, .int .i64 0] 27)) = w46 at S n1 n2 n3 n4 HH hS ⊢
      clear hKK KK
      try simp only [Act.put, List.setIfInBounds_toArray, List.set_cons_zero, List.set_cons_succ]
      refine wpAnyH_ready (rs := [4, 10]) (by kernel_rfl) (by simp) (AllReadyH.cons (opOf rfl) (fun KK hKK => ?_) (AllReadyH.cons (opOf rfl) (fun KK hKK => ?_) AllReadyH.nil))
      ·
        go_simp; clear hS
        refine (S.call (dmax_any ⟨b1, p1, l1, K1, m1, e1, rfl, h1, n1, d1⟩ ⟨b3, p3, l3, K3, m3, e3, rfl, h3, n3, d3⟩ HK.out)).mono ?_
        clear S
        rintro e w47 ⟨⟨_, rfl, b5, p5, l5, K5, m5, e5, rfl, h5, n5, d5⟩, S, H⟩
        replace n1 := n1.hold H; replace n2 := n2.hold H; replace n3 := n3.hold H; replace n4 := n4.hold H; replace HH := HH.trans H.to32; clear H
        go_wp2_with fail
        refine hKK.out _ _ (con6 (S.c6 0 rfl) (S.c6 1 rfl)) (fun hS => ?_)
        clear hKK KK
        try simp only [Act.put, List.setIfInBounds_toArray, List.set_cons_zero, List.set_cons_succ]
        refine wpAnyH_ready (rs := [9, 10]) (by kernel_rfl) (by simp) (AllReadyH.cons (opOf rfl) (fun KK hKK => ?_) (AllReadyH.cons (opOf rfl) (fun KK hKK => ?_) AllReadyH.nil))
        ·
          go_simp; clear hS
          refine (S.call (dmin_any ⟨b2, p2, l2, K2, m2, e2, rfl, h2, n2, d2⟩ ⟨b4, p4, l4, K4, m4, e4, rfl, h4, n4, d4⟩ HK.out)).mono ?_
          clear S
          rintro e w48 ⟨⟨_, rfl, b6, p6, l6, K6, m6, e6, rfl, h6, n6, d6⟩, S, H⟩
          replace n1 := n1.hold H; replace n2 := n2.hold H; replace n3 := n3.hold H; replace n4 := n4.hold H; replace n5 := n5.hold H; replace HH := HH.trans H.to32; clear H
          go_wp2_with fail
          refine hKK.out _ _ (con6 (S.c6 0 rfl) (S.c6 1 rfl)) (fun hS => ?_)
          clear hKK KK
          try simp only [Act.put, List.setIfInBounds_toArray, List.set_cons_zero, List.set_cons_succ]
          refine rdyOp (i := 10) (by kernel_rfl) (opOf rfl) (fun KK hKK => ?_)
          go_simp; clear hS
          have H := S.hnew 27 [.bool false, .slice none 0 0, .int .i64 0]
          replace S := S.alloc 27 [.bool false, .slice none 0 0, .int .i64 0] (w48.heap.size)
          try simp only [List.cons_append, List.nil_append] at S
          replace n1 := n1.hold H; replace n2 := n2.hold H; replace n3 := n3.hold H; replace n4 := n4.hold H; replace n5 := n5.hold H; replace n6 := n6.hold H; replace HH := HH.trans H.to32; clear H
          refine hKK.out _ _ (con6 (S.c6 0 rfl) (S.c6 1 rfl)) (fun hS => ?_)
          generalize (w48.alloc (.cells #[.bool false, .slice none 0 0, .int .i64 0] 27)) = w49 at S n1 n2 n3 n4 n5 n6 HH hS ⊢
          clear hKK KK
          try simp only [Act.put, List.setIfInBounds_toArray, List.set_cons_zero, List.set_cons_succ]
          refine rdyOp (i := 12) (by kernel_rfl) (opOf rfl) (fun KK hKK => ?_)
          obtain ⟨c0, c1, c2⟩ := S.c3 4 rfl; obtain ⟨f0, f1, f2⟩ := S.f3 4 rfl
          go_simp; clear hS c0 f0 c1 f1 c2 f2
          have HP := S.put3 4 (.bool b5) (.slice p5 l5 K5) (.int .i64 e5) rfl rfl; have H := HP.2; replace S := HP.1; clear HP
          replace n1 := n1.hold32 H; replace n2 := n2.hold32 H; replace n3 := n3.hold32 H; replace n4 := n4.hold32 H; replace n5 := n5.hold32 H; replace n6 := n6.hold32 H; replace HH := HH.trans H; clear H
          refine hKK.out _ _ (con6 (S.c6 0 rfl) (S.c6 1 rfl)) (fun hS => ?_)
          generalize (((w49.setCell ⟨w48.heap.size, 0, none⟩ (.bool b5)).setCell ⟨w48.heap.size, 1, none⟩ (.slice p5 l5 K5)).setCell ⟨w48.heap.size, 2, none⟩ (.int .i64 e5)) = w50 at S n1 n2 n3 n4 n5 n6 HH hS ⊢
          clear hKK KK
          try simp only [Act.put, List.setIfInBounds_toArray, List.set_cons_zero, List.set_cons_succ]
          refine rdyOp (i := 13) (by kernel_rfl) (opOf rfl) (fun KK hKK => ?_)
          obtain ⟨c0, c1, c2⟩ := S.c3 3 rfl; obtain ⟨f0, f1, f2⟩ := S.f3 3 rfl
          go_simp; clear hS c0 f0 c1 f1 c2 f2
          have HP := S.put3 3 (.bool b6) (.slice p6 l6 K6) (.int .i64 e6) rfl rfl; have H := HP.2; replace S := HP.1; clear HP
          replace n1 := n1.hold32 H; replace n2 := n2.hold32 H; replace n3 := n3.hold32 H; replace n4 := n4.hold32 H; replace n5 := n5.hold32 H; replace n6 := n6.hold32 H; replace HH := HH.trans H; clear H
          refine hKK.out _ _ (con6 (S.c6 0 rfl) (S.c6 1 rfl)) (fun hS => ?_)
          generalize (((w50.setCell ⟨w2.heap.size, 0, none⟩ (.bool b6)).setCell ⟨w2.heap.size, 1, none⟩ (.slice p6 l6 K6)).setCell ⟨w2.heap.size, 2, none⟩ (.int .i64 e6)) = w51 at S n1 n2 n3 n4 n5 n6 HH hS ⊢
          clear hKK KK
          try simp only [Act.put, List.setIfInBounds_toArray, List.set_cons_zero, List.set_cons_succ]
          refine wpAnyH_done (by kernel_rfl) ?_ _
          go_wp2_with fail
          go_meet
          case rel => exact ⟨w48.heap.size, w2.heap.size, b5, p5, l5, K5, m5, e5, b6, p6, l6, K6, m6, e6, rfl, rfl, Su.of S [0, 1, 2, 4, 3] rfl, h5, n5, d5, h6, n6, d6, HH⟩
        ·
          go_simp; clear hS
          have H := S.hnew 27 [.bool false, .slice none 0 0, .int .i64 0]
          replace S := S.alloc 27 [.bool false, .slice none 0 0, .int .i64 0] (w47.heap.size)
          try simp only [List.cons_append, List.nil_append] at S
          replace n1 := n1.hold H; replace n2 := n2.hold H; replace n3 := n3.hold H; replace n4 := n4.hold H; replace n5 := n5.hold H; replace HH := HH.trans H.to32; clear H
          refine hKK.out _ _ (con6 (S.c6 0 rfl) (S.c6 1 rfl)) (fun hS => ?_)
          generalize (w47.alloc (.cells #[.bool false, .slice none 0 0, .int .i64 0] 27)) = w52 at S n1 n2 n3 n4 n5 HH hS ⊢
          clear hKK KK
          try simp only [Act.put, List.setIfInBounds_toArray, List.set_cons_zero, List.set_cons_succ]
          refine rdyOp (i := 9) (by kernel_rfl) (opOf rfl) (fun KK hKK => ?_)
          go_simp; clear hS
          refine (S.call (dmin_any ⟨b2, p2, l2, K2, m2, e2, rfl, h2, n2, d2⟩ ⟨b4, p4, l4, K4, m4, e4, rfl, h4, n4, d4⟩ HK.out)).mono ?_
          clear S
          rintro e w53 ⟨⟨_, rfl, b6, p6, l6, K6, m6, e6, rfl, h6, n6, d6⟩, S, H⟩
          replace n1 := n1.hold H; replace n2 := n2.hold H; replace n3 := n3.hold H; replace n4 := n4.hold H; replace n5 := n5.hold H; replace HH := HH.trans H.to32; clear H
          go_wp2_with fail
          refine hKK.out _ _ (con6 (S.c6 0 rfl) (S.c6 1 rfl)) (fun hS => ?_)
          clear hKK KK
          try simp only [Act.put, List.setIfInBounds_toArray, List.set_cons_zero, List.set_cons_succ]
          refine rdyOp (i := 12) (by kernel_rfl) (opOf rfl) (fun KK hKK => ?_)
          obtain ⟨c0, c1, c2⟩ := S.c3 4 rfl; obtain ⟨f0, f1, f2⟩ := S.f3 4 rfl
          go_simp; clear hS c0 f0 c1 f1 c2 f2
          have HP := S.put3 4 (.bool b5) (.slice p5 l5 K5) (.int .i64 e5) rfl rfl; have H := HP.2; replace S := HP.1; clear HP
          replace n1 := n1.hold32 H; replace n2 := n2.hold32 H; replace n3 := n3.hold32 H; replace n4 := n4.hold32 H; replace n5 := n5.hold32 H; replace n6 := n6.hold32 H; replace HH := HH.trans H; clear H
          refine hKK.out _ _ (con6 (S.c6 0 rfl) (S.c6 1 rfl)) (fun hS => ?_)
          generalize (((w53.setCell ⟨w47.heap.size, 0, none⟩ (.bool b5)).setCell ⟨w47.heap.size, 1, none⟩ (.slice p5 l5 K5)).setCell ⟨w47.heap.size, 2, none⟩ (.int .i64 e5)) = w54 at S n1 n2 n3 n4 n5 n6 HH hS ⊢
          clear hKK KK
          try simp only [Act.put, List.setIfInBounds_toArray, List.set_cons_zero, List.set_cons_succ]
          refine rdyOp (i := 13) (by kernel_rfl) (opOf rfl) (fun KK hKK => ?_)
          obtain ⟨c0, c1, c2⟩ := S.c3 3 rfl; obtain ⟨f0, f1, f2⟩ := S.f3 3 rfl
          go_simp; clear hS c0 f0 c1 f1 c2 f2
          have HP := S.put3 3 (.bool b6) (.slice p6 l6 K6) (.int .i64 e6) rfl rfl; have H := HP.2; replace S := HP.1; clear HP
          replace n1 := n1.hold32 H; replace n2 := n2.hold32 H; replace n3 := n3.hold32 H; replace n4 := n4.hold32 H; replace n5 := n5.hold32 H; replace n6 := n6.hold32 H; replace HH := HH.trans H; clear H
          refine hKK.out _ _ (con6 (S.c6 0 rfl) (S.c6 1 rfl)) (fun hS => ?_)
          generalize (((w54.setCell ⟨w2.heap.size, 0, none⟩ (.bool b6)).setCell ⟨w2.heap.size, 1, none⟩ (.slice p6 l6 K6)).setCell ⟨w2.heap.size, 2, none⟩ (.int .i64 e6)) = w55 at S n1 n2 n3 n4 n5 n6 HH hS ⊢
          clear hKK KK
          try simp only [Act.put, List.setIfInBounds_toArray, List.set_cons_zero, List.set_cons_succ]
          refine wpAnyH_done (by kernel_rfl) ?_ _
          go_wp2_with fail
          go_meet
          case rel => exact ⟨w47.heap.size, w2.heap.size, b5, p5, l5, K5, m5, e5, b6, p6, l6, K6, m6, e6, rfl, rfl, Su.of S [0, 1, 2, 4, 3] rfl, h5, n5, d5, h6, n6, d6, HH⟩
      ·
        go_simp; clear hS
        have H := S.hnew 27 [.bool false, .slice none 0 0, .int .i64 0]
        replace S := S.alloc 27 [.bool false, .slice none 0 0, .int .i64 0] (w46.heap.size)
        try simp only [List.cons_append, List.nil_append] at S
        replace n1 := n1.hold H; replace n2 := n2.hold H; replace n3 := n3.hold H; replace n4 := n4.hold H; replace HH := HH.trans H.to32; clear H
        refine hKK.out _ _ (con6 (S.c6 0 rfl) (S.c6 1 rfl)) (fun hS => ?_)
        generalize (w46.alloc (.cells #[.bool false, .slice none 0 0, .int .i64 0] 27)) = w56 at S n1 n2 n3 n4 HH hS ⊢
        clear hKK KK
        try simp only [Act.put, List.setIfInBounds_toArray, List.set_cons_zero, List.set_cons_succ]
        refine rdyOp (i := 4) (by kernel_rfl) (opOf rfl) (fun KK hKK => ?_)
        go_simp; clear hS
        refine (S.call (dmax_any ⟨b1, p1, l1, K1, m1, e1, rfl, h1, n1, d1⟩ ⟨b3, p3, l3, K3, m3, e3, rfl, h3, n3, d3⟩ HK.out)).mono ?_
        clear S
        rintro e w57 ⟨⟨_, rfl, b5, p5, l5, K5, m5, e5, rfl, h5, n5, d5⟩, S, H⟩
        replace n1 := n1.hold H; replace n2 := n2.hold H; replace n3 := n3.hold H; replace n4 := n4.hold H; replace HH := HH.trans H.to32; clear H
        go_wp2_with fail
        refine hKK.out _ _ (con6 (S.c6 0 rfl) (S.c6 1 rfl)) (fun hS => ?_)
        clear hKK KK
        try simp only [Act.put, List.setIfInBounds_toArray, List.set_cons_zero, List.set_cons_succ]
        refine rdyOp (i := 9) (by kernel_rfl) (opOf rfl) (fun KK hKK => ?_)
        go_simp; clear hS
        refine (S.call (dmin_any ⟨b2, p2, l2, K2, m2, e2, rfl, h2, n2, d2⟩ ⟨b4, p4, l4, K4, m4, e4, rfl, h4, n4, d4⟩ HK.out)).mono ?_
        clear S
        rintro e w58 ⟨⟨_, rfl, b6, p6, l6, K6, m6, e6, rfl, h6, n6, d6⟩, S, H⟩
        replace n1 := n1.hold H; replace n2 := n2.hold H; replace n3 := n3.hold H; replace n4 := n4.hold H; replace n5 := n5.hold H; replace HH := HH.trans H.to32; clear H
        go_wp2_with fail
        refine hKK.out _ _ (con6 (S.c6 0 rfl) (S.c6 1 rfl)) (fun hS => ?_)
        clear hKK KK
        try simp only [Act.put, List.setIfInBounds_toArray, List.set_cons_zero, List.set_cons_succ]
        refine rdyOp (i := 12) (by kernel_rfl) (opOf rfl) (fun KK hKK => ?_)
        obtain ⟨c0, c1, c2⟩ := S.c3 4 rfl; obtain ⟨f0, f1, f2⟩ := S.f3 4 rfl
        go_simp; clear hS c0 f0 c1 f1 c2 f2
        have HP := S.put3 4 (.bool b5) (.slice p5 l5 K5) (.int .i64 e5) rfl rfl; have H := HP.2; replace S := HP.1; clear HP
        replace n1 := n1.hold32 H; replace n2 := n2.hold32 H; replace n3 := n3.hold32 H; replace n4 := n4.hold32 H; replace n5 := n5.hold32 H; replace n6 := n6.hold32 H; replace HH := HH.trans H; clear H
        refine hKK.out _ _ (con6 (S.c6 0 rfl) (S.c6 1 rfl)) (fun hS => ?_)
        generalize (((w58.setCell ⟨w46.heap.size, 0, none⟩ (.bool b5)).setCell ⟨w46.heap.size, 1, none⟩ (.slice p5 l5 K5)).setCell ⟨w46.heap.size, 2, none⟩ (.int .i64 e5)) = w59 at S n1 n2 n3 n4 n5 n6 HH hS ⊢
        clear hKK KK
        try simp only [Act.put, List.setIfInBounds_toArray, List.set_cons_zero, List.set_cons_succ]
        refine rdyOp (i := 13) (by kernel_rfl) (opOf rfl) (fun KK hKK => ?_)
        obtain ⟨c0, c1, c2⟩ := S.c3 3 rfl; obtain ⟨f0, f1, f2⟩ := S.f3 3 rfl
        go_simp; clear hS c0 f0 c1 f1 c2 f2
        have HP := S.put3 3 (.bool b6) (.slice p6 l6 K6) (.int .i64 e6) rfl rfl; have H := HP.2; replace S := HP.1; clear HP
        replace n1 := n1.hold32 H; replace n2 := n2.hold32 H; replace n3 := n3.hold32 H; replace n4 := n4.hold32 H; replace n5 := n5.hold32 H; replace n6 := n6.hold32 H; replace HH := HH.trans H; clear H
        refine hKK.out _ _ (con6 (S.c6 0 rfl) (S.c6 1 rfl)) (fun hS => ?_)
        generalize (((w59.setCell ⟨w2.heap.size, 0, none⟩ (.bool b6)).setCell ⟨w2.heap.size, 1, none⟩ (.slice p6 l6 K6)).setCell ⟨w2.heap.size, 2, none⟩ (.int .i64 e6)) = w60 at S n1 n2 n3 n4 n5 n6 HH hS ⊢
        clear hKK KK
        try simp only [Act.put, List.setIfInBounds_toArray, List.set_cons_zero, List.set_cons_succ]
        refine wpAnyH_done (by kernel_rfl) ?_ _
        go_wp2_with fail
        go_meet
        case rel => exact ⟨w46.heap.size, w2.heap.size, b5, p5, l5, K5, m5, e5, b6, p6, l6, K6, m6, e6, rfl, rfl, Su.of S [0, 1, 2, 4, 3] rfl, h5, n5, d5, h6, n6, d6, HH⟩
  case rest =>
    obtain ⟨g6, g7, b5, p5, l5, K5, m5, e5, b6, p6, l6, K6, m6, e6, rfl, rfl, S, h5, n5, d5, h6, n6, d6, HH⟩ := hcut
    obtain ⟨w61, rfl⟩ : ∃ W : World, W = wc := ⟨_, rfl⟩
    replace n1 := n1.hold32 HH; replace n2 := n2.hold32 HH; replace n3 := n3.hold32 HH; replace n4 := n4.hold32 HH; clear HH; obtain ⟨c2_0, c2_1, c2_2, c2_3, c2_4, c2_5⟩ := S.c6 2 rfl; obtain ⟨c3_0, c3_1, c3_2⟩ := S.c3 3 rfl; obtain ⟨c4_0, c4_1, c4_2⟩ := S.c3 4 rfl; go_wp2_with fail; clear c2_0 c2_1 c2_2 c2_3 c2_4 c2_5 c3_0 c3_1 c3_2 c4_0 c4_1 c4_2
    refine (S.call (dless_any ⟨b6, p6, l6, K6, m6, e6, rfl, h6, n6, d6⟩ ⟨b5, p5, l5, K5, m5, e5, rfl, h5, n5, d5⟩ HK.out false hl.out)).mono ?_
    clear S
    rintro e w62 ⟨rfl, S, H⟩
    replace n1 := n1.hold H; replace n2 := n2.hold H; replace n3 := n3.hold H; replace n4 := n4.hold H; replace n5 := n5.hold H; replace n6 := n6.hold H
    clear H; obtain ⟨c2_0, c2_1, c2_2, c2_3, c2_4, c2_5⟩ := S.c6 2 rfl; obtain ⟨c3_0, c3_1, c3_2⟩ := S.c3 3 rfl; obtain ⟨c4_0, c4_1, c4_2⟩ := S.c3 4 rfl
    obtain ⟨f2_0, f2_1, f2_2, f2_3, f2_4, f2_5⟩ := S.f6 2 rfl
    have HP := S.put6 2 (.bool b5) (.slice p5 l5 K5) (.int .i64 e5) (.bool b6) (.slice p6 l6 K6) (.int .i64 e6) rfl rfl; have H := HP.2; replace S := HP.1; clear HP
    replace n1 := n1.hold32 H; replace n2 := n2.hold32 H; replace n3 := n3.hold32 H; replace n4 := n4.hold32 H; replace n5 := n5.hold32 H; replace n6 := n6.hold32 H
    clear H; go_wp2_with fail; obtain ⟨d2_0, d2_1, d2_2, d2_3, d2_4, d2_5⟩ := S.c6 2 rfl
    exact bodyPost_ret (v := .tuple #[.agg #[.bool b5, .slice p5 l5 K5, .int .i64 e5, .bool b6, .slice p6 l6 K6, .int .i64 e6], .int .i64 0]) (by simp [results, Tryz.f30, go_sem, d2_0, d2_1, d2_2, d2_3, d2_4, d2_5]) rfl (⟨⟨_, rfl, b5, p5, l5, K5, m5, e5, b6, p6, l6, K6, m6, e6, rfl, h5, n5, d5, h6, n6, d6⟩, S.below⟩)
end Go.Proofs.YtnkmcikjeicpfaaGreatDoor
