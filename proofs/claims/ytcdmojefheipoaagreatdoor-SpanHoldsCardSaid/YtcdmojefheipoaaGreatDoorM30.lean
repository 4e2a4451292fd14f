/-
  What the statement stands on.
-/
import Derived.Test.YtcdmojefheipoaaGreatDoorM29
import Derived.Laws.Bits128
namespace Go.Proofs.YtcdmojefheipoaaGreatDoor
open Go.RowKit
theorem shasr_yes {va vb : Value} {x y z : Rat} {L H k1 k2 : Nat} {w : World} (ha : IsSp w va x y L H) (hb : IsRat w vb z) (hLH : H + L + 1 ≤ 16384) (hx : H + L + 1 ≤ 32 * k1) (hy : RB z k2) (hk : k1 + k2 ≤ 511) (h1 : x ≤ z) (h2 : z ≤ y) :
    Calls Tryz.prog 61 #[va, vb] w fun e w' => e = .returned (.tuple #[.bool true, .int .i64 0]) ∧ Below w.heap.size w w' := by
  have c1 : cmpR x z = -1 ∨ cmpR x z = 0 := by
    rcases rat_three x z with h | h | h
    · exact .inl (cmpR_lt h)
    · exact .inr (by rw [h]; exact cmpR_eq z)
    · exact absurd h (Rat.not_lt.2 h1)
  have c2 : cmpR y z = 0 ∨ cmpR y z = 1 := by
    rcases rat_three y z with h | h | h
    · exact absurd h (Rat.not_lt.2 h2)
    · exact .inl (by rw [h]; exact cmpR_eq z)
    · exact .inr (cmpR_gt h)
  rcases c1 with c1 | c1 <;> rcases c2 with c2 | c2
  · exact shasr_lt_eq ha hb hLH hx hy hk c1 c2
  · exact shasr_lt_gt ha hb hLH hx hy hk c1 c2
  · exact shasr_eq_eq ha hb hLH hx hy hk c1 c2
  · exact shasr_eq_gt ha hb hLH hx hy hk c1 c2
theorem sround_v {va : Value} {x y lo hi : Rat} {w : World} {L H : Nat} (hT : Tab w) (ha : IsSp w va x y L H) (hk : H + 1 + L ≤ 16384) (n : Nat) (hn2 : 2 ≤ n) (hn4 : n ≤ 4096) (hlo : rq x n false = lo) (hhi : rq y n true = hi) :
    Calls Tryz.prog 19 #[va, .int .i64 n] w fun e w' => (∃ u, e = .returned (.tuple #[u, .int .i64 0]) ∧ IsSp w' u lo hi L (H + 1)) ∧ Below w.heap.size w w' := by
  subst hlo hhi; exact sround_any hT ha hk n hn2 hn4
theorem sadd_v {va vb : Value} {x y u v lo hi : Rat} {w : World} {L H : Nat} (hT : Tab w) (ha : IsSp w va x y L H) (hb : IsSp w vb u v L H) (hk : H + 2 + L ≤ 16384) (n : Nat) (hn2 : 2 ≤ n) (hn4 : n ≤ 4096) (hlo : rq (x + u) n false = lo) (hhi : rq (y + v) n true = hi) :
    Calls Tryz.prog 16 #[va, vb, .int .i64 n] w fun e w' => (∃ z, e = .returned (.tuple #[z, .int .i64 0]) ∧ IsSp w' z lo hi L (H + 2)) ∧ Below w.heap.size w w' := by
  subst hlo hhi; exact sadd_any hT ha hb hk n hn2 hn4
theorem ssub_v {va vb : Value} {x y u v lo hi : Rat} {w : World} {L H : Nat} (hT : Tab w) (ha : IsSp w va x y L H) (hb : IsSp w vb u v L H) (hk : H + 2 + L ≤ 16384) (n : Nat) (hn2 : 2 ≤ n) (hn4 : n ≤ 4096) (hlo : rq (x + -v) n false = lo) (hhi : rq (y + -u) n true = hi) :
    Calls Tryz.prog 17 #[va, vb, .int .i64 n] w fun e w' => (∃ z, e = .returned (.tuple #[z, .int .i64 0]) ∧ IsSp w' z lo hi L (H + 2)) ∧ Below w.heap.size w w' := by
  subst hlo hhi; exact ssub_any hT ha hb hk n hn2 hn4
theorem smul_v {va vb : Value} {x y u v lo hi : Rat} {w : World} {L H : Nat} (hT : Tab w) (ha : IsSp w va x y L H) (hb : IsSp w vb u v L H) (hk : H + H + 1 + (L + L) ≤ 16384) (n : Nat) (hn2 : 2 ≤ n) (hn4 : n ≤ 4096) (hlo : rq (loM x y u v) n false = lo) (hhi : rq (hiM x y u v) n true = hi) :
    Calls Tryz.prog 18 #[va, vb, .int .i64 n] w fun e w' => (∃ z, e = .returned (.tuple #[z, .int .i64 0]) ∧ IsSp w' z lo hi (L + L) (H + H + 1)) ∧ Below w.heap.size w w' := by
  subst hlo hhi; exact smul_any hT ha hb hk n hn2 hn4 _ _ rfl rfl
theorem rq_lit {x y : Rat} {n : Nat} {up : Bool} (m e : Int) (hc : DyC m e) (hx : dq m e = x) (hr : rnd m e n up = y) : rq x n up = y := by rw [← rq_is n up hc hx]; exact hr
def qsm2 : Rat := mkRat (-2) 1
def qsm1 : Rat := mkRat (-1) 1
def qs0 : Rat := mkRat (0) 1
def qs1 : Rat := mkRat (1) 1
def qs2 : Rat := mkRat (2) 1
def qs3 : Rat := mkRat (3) 1
def qs4 : Rat := mkRat (4) 1
def qs5 : Rat := mkRat (5) 1
def qs6 : Rat := mkRat (6) 1
def qs7 : Rat := mkRat (7) 1
def qsh : Rat := mkRat (3) 2
def qsl : Rat := mkRat (5) 16
def qsu : Rat := mkRat (11) 32
def qst : Rat := mkRat (1) 3
def qsq : Rat := mkRat (1) 4
def qsx : Rat := mkRat (3) 8
theorem qsm2_rb : RB qsm2 1 := rb_one (by decide +kernel) (by decide +kernel)
theorem qsm1_rb : RB qsm1 1 := rb_one (by decide +kernel) (by decide +kernel)
theorem qs0_rb : RB qs0 1 := rb_one (by decide +kernel) (by decide +kernel)
theorem qs1_rb : RB qs1 1 := rb_one (by decide +kernel) (by decide +kernel)
theorem qs2_rb : RB qs2 1 := rb_one (by decide +kernel) (by decide +kernel)
theorem qs3_rb : RB qs3 1 := rb_one (by decide +kernel) (by decide +kernel)
theorem qs5_rb : RB qs5 1 := rb_one (by decide +kernel) (by decide +kernel)
theorem qs6_rb : RB qs6 1 := rb_one (by decide +kernel) (by decide +kernel)
theorem qs7_rb : RB qs7 1 := rb_one (by decide +kernel) (by decide +kernel)
theorem qsl_rb : RB qsl 1 := rb_one (by decide +kernel) (by decide +kernel)
theorem qsu_rb : RB qsu 1 := rb_one (by decide +kernel) (by decide +kernel)
theorem qst_is : qst = Rat.divInt (1) 3 := by decide +kernel
theorem qst_rb : RB qst 1 := rb_one (by decide +kernel) (by decide +kernel)
theorem qsm2_text : IsRText (bs ⟨#[45, 50]⟩) qsm2 := .inl ⟨by decide +kernel, by rw [show qsm2.num = (-2) by decide +kernel]; exact itext_neg (by decide) rfl (show IsText [50] _ from ⟨by decide, by decide, by decide, by decide⟩)⟩
theorem qsm1_dq : dq (-1) 0 = qsm1 := by decide +kernel
theorem qsm1_text : IsRText (bs ⟨#[45, 49]⟩) qsm1 := .inl ⟨by decide +kernel, by rw [show qsm1.num = (-1) by decide +kernel]; exact itext_neg (by decide) rfl (show IsText [49] _ from ⟨by decide, by decide, by decide, by decide⟩)⟩
theorem qs0_dq : dq (0) 0 = qs0 := by decide +kernel
theorem qs0_text : IsRText (bs ⟨#[48]⟩) qs0 := .inl ⟨by decide +kernel, by rw [show qs0.num = (0) by decide +kernel]; exact itext_pos (by decide) ⟨by decide, by decide, by decide, by decide⟩⟩
theorem qs1_dq : dq (1) 0 = qs1 := by decide +kernel
theorem qs1_text : IsRText (bs ⟨#[49]⟩) qs1 := .inl ⟨by decide +kernel, by rw [show qs1.num = (1) by decide +kernel]; exact itext_pos (by decide) ⟨by decide, by decide, by decide, by decide⟩⟩
theorem qs2_dq : dq (2) 0 = qs2 := by decide +kernel
theorem qs2_text : IsRText (bs ⟨#[50]⟩) qs2 := .inl ⟨by decide +kernel, by rw [show qs2.num = (2) by decide +kernel]; exact itext_pos (by decide) ⟨by decide, by decide, by decide, by decide⟩⟩
theorem qs3_dq : dq (3) 0 = qs3 := by decide +kernel
theorem qs3_text : IsRText (bs ⟨#[51]⟩) qs3 := .inl ⟨by decide +kernel, by rw [show qs3.num = (3) by decide +kernel]; exact itext_pos (by decide) ⟨by decide, by decide, by decide, by decide⟩⟩
theorem qs4_dq : dq (4) 0 = qs4 := by decide +kernel
theorem qs5_text : IsRText (bs ⟨#[53]⟩) qs5 := .inl ⟨by decide +kernel, by rw [show qs5.num = (5) by decide +kernel]; exact itext_pos (by decide) ⟨by decide, by decide, by decide, by decide⟩⟩
theorem qs6_text : IsRText (bs ⟨#[54]⟩) qs6 := .inl ⟨by decide +kernel, by rw [show qs6.num = (6) by decide +kernel]; exact itext_pos (by decide) ⟨by decide, by decide, by decide, by decide⟩⟩
theorem qs7_text : IsRText (bs ⟨#[55]⟩) qs7 := .inl ⟨by decide +kernel, by rw [show qs7.num = (7) by decide +kernel]; exact itext_pos (by decide) ⟨by decide, by decide, by decide, by decide⟩⟩
theorem qsh_dq : dq 3 (-1) = qsh := by decide +kernel
theorem qsl_text : IsRText (bs ⟨#[53, 47, 49, 54]⟩) qsl := rtext_frac 5 16 qsl (by decide +kernel) (by decide +kernel) [53] [49, 54] _ rfl (by decide) (itext_pos (by decide) ⟨by decide, by decide, by decide, by decide⟩) ⟨by decide, by decide, by decide, by decide⟩
theorem qsu_text : IsRText (bs ⟨#[49, 49, 47, 51, 50]⟩) qsu := rtext_frac 11 32 qsu (by decide +kernel) (by decide +kernel) [49, 49] [51, 50] _ rfl (by decide) (itext_pos (by decide) ⟨by decide, by decide, by decide, by decide⟩) ⟨by decide, by decide, by decide, by decide⟩
theorem qsl_near : nearV 1 3 0 4 false = qsl := by decide +kernel
theorem qsu_near : nearV 1 3 0 4 true = qsu := by decide +kernel
theorem qst_num : qst.num = 1 := by decide +kernel
theorem qst_den : qst.den = 3 := by decide +kernel
theorem qst_ne : qst ≠ 0 := by decide +kernel
theorem qst_tail : TailIs qst.den 0 := by rw [qst_den]; exact .inr ⟨1, rfl⟩
theorem qst_div : qst.den / 2 ^ 0 = 3 := by rw [qst_den]
theorem qhas0 : decide (¬ qs0 < qsm1 ∧ ¬ qs3 < qs0) = true := by decide +kernel
theorem qholds : decide (¬ qsl < qsq ∧ ¬ qsx < qsu) = true := by decide +kernel
theorem rq_add1 : rq (qs1 + qsm1) 20 false = qs0 := rq_lit 0 0 (.inl ⟨rfl, rfl⟩) (by decide +kernel) (by decide +kernel)
theorem rq_add2 : rq (qs2 + qs3) 20 true = qs5 := rq_lit 5 0 (.inr rfl) (by decide +kernel) (by decide +kernel)
theorem rq_sub1 : rq (qs1 + -qs3) 20 false = qsm2 := rq_lit (-1) 1 (.inr rfl) (by decide +kernel) (by decide +kernel)
theorem rq_sub2 : rq (qs2 + -qsm1) 20 true = qs3 := rq_lit 3 0 (.inr rfl) (by decide +kernel) (by decide +kernel)
theorem rq_mul1 : rq (loM qs1 qs2 qsm1 qs3) 20 false = qsm2 := rq_lit (-1) 1 (.inr rfl) (by decide +kernel) (by decide +kernel)
theorem rq_mul2 : rq (hiM qs1 qs2 qsm1 qs3) 20 true = qs6 := rq_lit 3 1 (.inr rfl) (by decide +kernel) (by decide +kernel)
theorem rq_rnd1 : rq qsl 2 false = qsq := rq_lit 5 (-4) (.inr rfl) (by decide +kernel) (by decide +kernel)
theorem rq_rnd2 : rq qsu 2 true = qsx := rq_lit 11 (-5) (.inr rfl) (by decide +kernel) (by decide +kernel)
theorem rq_one : rq (0 + qs1) 20 false = qs1 := rq_lit 1 0 (.inr rfl) (by decide +kernel) (by decide +kernel)
theorem rq_two : rq (qs1 + qs1) 20 false = qs2 := rq_lit 1 1 (.inr rfl) (by decide +kernel) (by decide +kernel)
theorem rq_thr : rq (qs2 + qsm1) 20 false = qs1 := rq_lit 1 0 (.inr rfl) (by decide +kernel) (by decide +kernel)
theorem rq_one' : rq (0 + qs2) 20 true = qs2 := rq_lit 1 1 (.inr rfl) (by decide +kernel) (by decide +kernel)
theorem rq_two' : rq (qs2 + qs2) 20 true = qs4 := rq_lit 1 2 (.inr rfl) (by decide +kernel) (by decide +kernel)
theorem rq_thr' : rq (qs4 + qs3) 20 true = qs7 := rq_lit 7 0 (.inr rfl) (by decide +kernel) (by decide +kernel)
theorem qmeet : ¬ min2 qs2 qs3 < max2 qs1 qsm1 := by decide +kernel
theorem qmeet1 : max2 qs1 qsm1 = qs1 := by decide +kernel
theorem qmeet2 : min2 qs2 qs3 = qs2 := by decide +kernel
theorem qhull1 : min2 qs1 qsm1 = qsm1 := by decide +kernel
theorem qhull2 : max2 qs2 qs3 = qs3 := by decide +kernel
theorem qwide : qs3 - qsm1 = qs4 := by decide +kernel
theorem qmid : (qs1 + qs2) * (1 / 2) = qsh := by decide +kernel
theorem qsize : cmpR (max2 qsm1.abs qs3.abs) qs3 = 0 := by decide +kernel
theorem qpt : dq 1 1 = qs2 := by decide +kernel
theorem qle12 : ¬ qs2 < qs1 := by decide +kernel
theorem qle13 : ¬ qs3 < qsm1 := by decide +kernel
theorem qlt12 : qs1 < qs2 := by decide +kernel
theorem qlt : qsl ≤ qst := by decide +kernel
theorem qut : qst ≤ qsu := by decide +kernel
theorem qneg2 : -qs2 = qsm2 := by decide +kernel
theorem qneg1 : -qs1 = qsm1 := by decide +kernel
theorem qev1 : -qsm1.abs = qsm1 := by decide +kernel
theorem qev2 : qsm1.abs = qs1 := by decide +kernel
theorem stext_v {va : Value} {x y : Rat} {w : World} {L H : Nat} (ha : IsSp w va x y L H) (hLH : H + L + 1 ≤ 16384) (x' y' : Rat) (hx : x = x') (hy : y = y') (bx : RB x' 1) (ry : RB y' 1) (s t r : ByteArray) (hs : IsRText (bs s) x') (ht : IsRText (bs t) y') (ls : s.size ≤ 1000) (lt : t.size ≤ 1000) (hr : s ++ ⟨#[46, 46]⟩ ++ t = r) :
    Calls Tryz.prog 62 #[va] w fun e w' => e = .returned (.string r) ∧ Below w.heap.size w w' := by
  subst hx hy hr
  exact stext_lit ha hLH s t (rb_max bx (by decide)) (rb_max ry (by decide)) hs ht ls lt
theorem spans3 {w W : World} {L : List (Nat × TypeId × List Value)} (S : St w W L) (i : Nat) {g : Nat} {t : TypeId} {B H : Nat} {x0 y0 x1 y1 x2 y2 : Rat} {b0 c0 b1 c1 b2 c2 : Bool} {p0 q0 p1 q1 p2 q2 : Option Addr} {l0 K0 k0 J0 l1 K1 k1 J1 l2 K2 k2 J2 : Nat} {e0 f0 e1 f1 e2 f2 m0 n0 m1 n1 m2 n2 : Int}
    (hi : L[i]? = some (g, t, [.bool b0, .slice p0 l0 K0, .int .i64 e0, .bool c0, .slice q0 k0 J0, .int .i64 f0, .bool b1, .slice p1 l1 K1, .int .i64 e1, .bool c1, .slice q1 k1 J1, .int .i64 f1, .bool b2, .slice p2 l2 K2, .int .i64 e2, .bool c2, .slice q2 k2 J2, .int .i64 f2]))
    (h0 : Hid (negB m0 = b0) ∧ IsNat W (.slice p0 l0 K0) m0.natAbs ∧ Hid (DyF m0 e0 x0 B H) ∧ Hid (negB n0 = c0) ∧ IsNat W (.slice q0 k0 J0) n0.natAbs ∧ Hid (DyF n0 f0 y0 B H))
    (h1 : Hid (negB m1 = b1) ∧ IsNat W (.slice p1 l1 K1) m1.natAbs ∧ Hid (DyF m1 e1 x1 B H) ∧ Hid (negB n1 = c1) ∧ IsNat W (.slice q1 k1 J1) n1.natAbs ∧ Hid (DyF n1 f1 y1 B H))
    (h2 : Hid (negB m2 = b2) ∧ IsNat W (.slice p2 l2 K2) m2.natAbs ∧ Hid (DyF m2 e2 x2 B H) ∧ Hid (negB n2 = c2) ∧ IsNat W (.slice q2 k2 J2) n2.natAbs ∧ Hid (DyF n2 f2 y2 B H)) :
    SpansAt W g 3 (fun j => [SpC.mk b0 c0 p0 q0 l0 K0 k0 J0 m0 e0 n0 f0, SpC.mk b1 c1 p1 q1 l1 K1 k1 J1 m1 e1 n1 f1, SpC.mk b2 c2 p2 q2 l2 K2 k2 J2 m2 e2 n2 f2].getD j (SpC.mk b0 c0 p0 q0 l0 K0 k0 J0 m0 e0 n0 f0)) (fun j => [x0, x1, x2].getD j 0) (fun j => [y0, y1, y2].getD j 0) B H := by
  refine ⟨S.lt i hi, fun j hj => ?_⟩
  match j, hj with
  | 0, _ => exact ⟨S.c i 0 hi rfl, S.c i 1 hi rfl, S.c i 2 hi rfl, S.c i 3 hi rfl, S.c i 4 hi rfl, S.c i 5 hi rfl, h0.1.out, h0.2.1, h0.2.2.1.out, h0.2.2.2.1.out, h0.2.2.2.2.1, h0.2.2.2.2.2.out⟩
  | 1, _ => exact ⟨S.c i 6 hi rfl, S.c i 7 hi rfl, S.c i 8 hi rfl, S.c i 9 hi rfl, S.c i 10 hi rfl, S.c i 11 hi rfl, h1.1.out, h1.2.1, h1.2.2.1.out, h1.2.2.2.1.out, h1.2.2.2.2.1, h1.2.2.2.2.2.out⟩
  | 2, _ => exact ⟨S.c i 12 hi rfl, S.c i 13 hi rfl, S.c i 14 hi rfl, S.c i 15 hi rfl, S.c i 16 hi rfl, S.c i 17 hi rfl, h2.1.out, h2.2.1, h2.2.2.1.out, h2.2.2.2.1.out, h2.2.2.2.2.1, h2.2.2.2.2.2.out⟩
theorem ssum3_v {g : Nat} {C : Nat → SpC} {x0 x1 x2 y0 y1 y2 : Rat} {L H : Nat} {w : World} (hT : Tab w) (h : SpansAt w g 3 C (fun j => [x0, x1, x2].getD j 0) (fun j => [y0, y1, y2].getD j 0) L H) (n : Nat) (hn2 : 2 ≤ n) (hn4 : n ≤ 4096) (hc : H + 6 + L ≤ 16384) (lo hi : Rat) (hlo : rq (rq (rq (0 + x0) n false + x1) n false + x2) n false = lo) (hhi : rq (rq (rq (0 + y0) n true + y1) n true + y2) n true = hi) :
    Calls Tryz.prog 24 #[.int .i64 n, .slice (some ⟨g, 0, none⟩) 3 3] w fun e w' => (∃ u, e = .returned (.tuple #[u, .int .i64 0]) ∧ IsSp w' u lo hi L (H + 6)) ∧ Below w.heap.size w w' := by
  subst hlo hhi
  exact ssum_any g 3 C _ _ L H w hT h n hn2 hn4 (by decide) hc
end Go.Proofs.YtcdmojefheipoaaGreatDoor
