/-
  What the statement stands on.
-/
import Derived.Test.YtcfgefbkeeedgaaGreatDoorM30
import Derived.Test.YtcfgefbkeeedgaaGreatDoorM41
namespace Go.Proofs.YtcfgefbkeeedgaaGreatDoor
open Go.RowKit
set_option maxRecDepth 100000 in
set_option maxHeartbeats 16000000 in
theorem vecScales_any (va : Value) (xsa : List RawQ) (vb : Value) (xsb : List RawQ) (b : Bool) (p q : Option Addr) (K J : Nat) (ds es : List Nat) (w : World) (hT : Tab w) (hRa : Raws w va xsa) (hRb : Raws w vb xsb) (at1 : At .u32 w p K ds) (at2 : At .u32 w q J es) (dd1 : Dig 4294967296 ds) (dd2 : Dig 4294967296 es) :
    Calls Tryz.prog 6 #[va, vb, .agg #[.bool b, .slice p ds.length K, .slice q es.length J]] w fun e w' => e = .returned (.bool true) ∧ Below w.heap.size w w' := by
  have HT := Lib.hid hT
  obtain ⟨pa, ca, rfl⟩ := hRa.form
  obtain ⟨na, hna⟩ : ∃ n, xsa.length = n := ⟨_, rfl⟩
  rw [hna] at hRa
  have HRa := Lib.hid (And.intro hRa hna)
  rw [hna]
  obtain ⟨pb, cb, rfl⟩ := hRb.form
  obtain ⟨nb, hnb⟩ : ∃ n, xsb.length = n := ⟨_, rfl⟩
  rw [hnb] at hRb
  have HRb := Lib.hid (And.intro hRb hnb)
  rw [hnb]
  obtain ⟨l, hl⟩ : ∃ l, ds.length = l := ⟨_, rfl⟩
  obtain ⟨j, hj⟩ : ∃ l, es.length = l := ⟨_, rfl⟩
  have HD := Lib.hid (And.intro dd1 (And.intro dd2 (And.intro hl hj)))
  rw [hl, hj]
  clear hT dd1 dd2 hl hj hRa hRb hna hnb
  have S := (St.start w).alloc 34 [.bool b, .slice p l K, .slice q j J] (w.heap.size)
  try simp only [List.nil_append] at S
  replace at1 := at1.hold S.hold; replace at2 := at2.hold S.hold
  obtain ⟨c0_0, c0_1, c0_2⟩ := S.c3 0 rfl
  go_enter Tryz.func6, Tryz.ntmps6
  go_wp2_with fail; clear c0_0 c0_1 c0_2
  refine (S.call (points_any _ (HT.out.below S.below))).mono ?_
  clear S
  rintro e w1 ⟨rfl, S, H⟩
  replace at1 := at1.hold H; replace at2 := at2.hold H
  clear H; obtain ⟨c0_0, c0_1, c0_2⟩ := S.c3 0 rfl
  have H := S.hnew 55 [.slice pa na ca, .slice pb nb cb]
  replace S := S.al 55 [.slice pa na ca, .slice pb nb cb] (w1.heap.size)
  replace at1 := at1.hold H; replace at2 := at2.hold H
  clear H; go_wp2_with fail; clear c0_0 c0_1 c0_2
  refine (S.call (vfit_any _ 2 (.slice pa na ca) xsa [(.slice pb nb cb, xsb)] _ (rawll2 S 1 rfl (HRa.out.1.to S.below) (HRb.out.1.to S.below)) rfl (by decide))).mono ?_
  clear S
  rintro e w2 ⟨⟨ok, rfl, hok⟩, S, H⟩
  replace at1 := at1.hold H; replace at2 := at2.hold H
  clear H; obtain ⟨c0_0, c0_1, c0_2⟩ := S.c3 0 rfl
  cases ok with
  | false =>
    go_wp2_with fail
    exact bodyPost_ret (v := .bool true) (by simp [results, Tryz.f6, go_sem]) rfl (⟨rfl, S.below⟩)
  | true =>
    have hfa := hok.out rfl 0 _ _ rfl
    have hfb := hok.out rfl 1 _ _ rfl
    rw [HRa.out.2] at hfa hfb
    obtain ⟨qa, ra, la, ba, _⟩ := hfa.list HRa.out.1
    obtain ⟨qb, rb, lb, bb, _⟩ := hfb.list HRb.out.1
    have hnb : nb = na := by rw [← HRb.out.2]; exact hfb.1
    subst hnb
    have HA := Lib.hid (And.intro ra (And.intro la ba))
    have HB := Lib.hid (And.intro rb (And.intro lb bb))
    clear hok hfa hfb ra la ba rb lb bb
    by_cases h6 : 6 < nb
    · have h6' : (6 : Int) < ((nb : Nat) : Int) := by omega
      go_wp2_with fail
      exact bodyPost_ret (v := .bool true) (by simp [results, Tryz.f6, go_sem]) rfl (⟨rfl, S.below⟩)
    have h6' : ¬ (6 : Int) < ((nb : Nat) : Int) := by omega
    have H6 := Lib.hid h6
    clear h6
    have H := S.hnew 34 [.bool b, .slice p l K, .slice q j J]
    replace S := S.al 34 [.bool b, .slice p l K, .slice q j J] (w2.heap.size)
    replace at1 := at1.hold H; replace at2 := at2.hold H
    clear H
    have H := S.hnew 55 [.slice (some ⟨w2.heap.size, 0, none⟩) 1 1]
    replace S := S.al 55 [.slice (some ⟨w2.heap.size, 0, none⟩) 1 1] (w2.heap.size + 1)
    replace at1 := at1.hold H; replace at2 := at2.hold H
    clear H; go_wp2_with fail; clear c0_0 c0_1 c0_2
    refine (S.call (vfit_any _ 1 (.slice (some ⟨w2.heap.size, 0, none⟩) 1 1) [⟨b, p, q, K, J, ds, es⟩] [] _ (rawll1 S 3 rfl (raws_lit S 2 rfl HD.out.2.2.1 HD.out.2.2.2 ⟨at1, at2, HD.out.1, HD.out.2.1⟩)) rfl (by decide))).mono ?_
    clear S
    rintro e w3 ⟨⟨ok2, rfl, hok⟩, S, H⟩
    replace at1 := at1.hold H; replace at2 := at2.hold H
    clear H; obtain ⟨c0_0, c0_1, c0_2⟩ := S.c3 0 rfl
    cases ok2 with
    | false =>
      go_wp2_with fail
      exact bodyPost_ret (v := .bool true) (by simp [results, Tryz.f6, go_sem]) rfl (⟨rfl, S.below⟩)
    | true =>
      have hf := (hok.out rfl 0 _ _ rfl).2.2 _ (List.mem_cons_self ..)
      obtain ⟨y, y1, y2, y3⟩ := hf.isQ HD.out.1 HD.out.2.1
      have hyn : IsNat w3 (.slice p ds.length K) y.num.natAbs ∧ IsNat w3 (.slice q es.length J) y.den := y3 w3 ⟨at1, at2, HD.out.1, HD.out.2.1⟩
      rw [HD.out.2.2.1, HD.out.2.2.2] at hyn
      obtain ⟨ny, dy⟩ := hyn
      have hy : Hid (negB y.num = b) := y1
      have HY := Lib.hid y2
      clear hok hf y1 y2 y3; clear at1 at2; clear c0_0 c0_1 c0_2; obtain ⟨c0_0, c0_1, c0_2⟩ := S.c3 0 rfl; go_wp2_with fail; clear c0_0 c0_1 c0_2
      have HIN := S.ins
      refine (S.call (vscale_any (HA.out.1.to S.below) ⟨b, p, l, K, q, j, J, rfl, hy, ny, dy⟩ nb HA.out.2.1 (by have := H6.out; omega) (k1 := 5) (k2 := 5) HA.out.2.2 HY.out (by decide))).mono ?_
      clear S
      rintro e w4 ⟨⟨_, rfl, g5, vs5, rfl, hg, hh, r5⟩, S, H⟩
      replace ny := ny.hold H; replace dy := dy.hold H
      clear H; obtain ⟨c0_0, c0_1, c0_2⟩ := S.c3 0 rfl
      rw [show (qa.map (· * y)).length = nb from by rw [List.length_map]; exact HA.out.2.1]
      replace S := S.adoptF HIN hg hh
      try simp only [List.cons_append, List.nil_append] at S
      clear HIN hg hh; go_wp2_with fail; clear c0_0 c0_1 c0_2
      refine (S.call (rof_any 1 1 _ (by decide) (by decide) (by decide) (by decide) (by decide) 1 (by decide +kernel))).mono ?_
      clear S
      rintro e w5 ⟨⟨_, rfl, b6, p6, l6, K6, q6, j6, J6, rfl, h6, n6, d6⟩, S, H⟩
      refine iv3 H ny dy r5 ?_; clear ny dy r5; intro ny dy r5
      clear H; obtain ⟨c0_0, c0_1, c0_2⟩ := S.c3 0 rfl; go_wp2_with fail; clear c0_0 c0_1 c0_2
      have HIN := S.ins
      refine (S.call (vscale_any (HA.out.1.to S.below) ⟨b6, p6, l6, K6, q6, j6, J6, rfl, h6, n6, d6⟩ nb HA.out.2.1 (by have := H6.out; omega) (k1 := 5) (k2 := 1) HA.out.2.2 (rb_one (by decide +kernel) (by decide +kernel)) (by decide))).mono ?_
      clear S
      rintro e w6 ⟨⟨_, rfl, g7, vs7, rfl, hg, hh, r7⟩, S, H⟩
      refine iv5 H ny dy r5 n6 d6 ?_; clear ny dy r5 n6 d6; intro ny dy r5 n6 d6
      clear H; obtain ⟨c0_0, c0_1, c0_2⟩ := S.c3 0 rfl
      rw [show (qa.map (· * (1 : Rat))).length = nb from by rw [List.length_map]; exact HA.out.2.1]
      replace S := S.adoptF HIN hg hh
      try simp only [List.cons_append, List.nil_append] at S
      clear HIN hg hh
      rw [map_one] at r7
      clear n6 d6; clear h6; go_wp2_with fail; clear c0_0 c0_1 c0_2
      refine (S.call (rzero_any _)).mono ?_
      clear S
      rintro e w7 ⟨⟨_, rfl, b8, p8, l8, K8, q8, j8, J8, rfl, h8, n8, d8⟩, S, H⟩
      refine iv4 H ny dy r5 r7 ?_; clear ny dy r5 r7; intro ny dy r5 r7
      clear H; obtain ⟨c0_0, c0_1, c0_2⟩ := S.c3 0 rfl; go_wp2_with fail; clear c0_0 c0_1 c0_2
      have HIN := S.ins
      refine (S.call (vscale_any (HA.out.1.to S.below) ⟨b8, p8, l8, K8, q8, j8, J8, rfl, h8, n8, d8⟩ nb HA.out.2.1 (by have := H6.out; omega) (k1 := 5) (k2 := 1) HA.out.2.2 (rb_one (by decide +kernel) (by decide +kernel)) (by decide))).mono ?_
      clear S
      rintro e w8 ⟨⟨_, rfl, g9, vs9, rfl, hg, hh, r9⟩, S, H⟩
      refine iv6 H ny dy r5 r7 n8 d8 ?_; clear ny dy r5 r7 n8 d8; intro ny dy r5 r7 n8 d8
      clear H; obtain ⟨c0_0, c0_1, c0_2⟩ := S.c3 0 rfl
      rw [show (qa.map (· * (0 : Rat))).length = nb from by rw [List.length_map]; exact HA.out.2.1]
      replace S := S.adoptF HIN hg hh
      try simp only [List.cons_append, List.nil_append] at S
      clear HIN hg hh
      rw [map_zero, HA.out.2.1] at r9
      clear n8 d8; clear h8; go_wp2_with fail; clear c0_0 c0_1 c0_2
      refine (S.call (vdot_any (HA.out.1.to S.below) (HB.out.1.to S.below) nb HA.out.2.1 HB.out.2.1 (by have := H6.out; omega) (k1 := 5) (k2 := 5) HA.out.2.2 HB.out.2.2 (by have := H6.out; omega))).mono ?_
      clear S
      rintro e w9 ⟨⟨_, rfl, b10, p10, l10, K10, q10, j10, J10, rfl, h10, n10, d10⟩, S, H⟩
      refine iv5 H ny dy r5 r7 r9 ?_; clear ny dy r5 r7 r9; intro ny dy r5 r7 r9
      clear H; obtain ⟨c0_0, c0_1, c0_2⟩ := S.c3 0 rfl
      have H := S.hnew 34 [.bool b10, .slice p10 l10 K10, .slice q10 j10 J10]
      replace S := S.al 34 [.bool b10, .slice p10 l10 K10, .slice q10 j10 J10] (w9.heap.size)
      refine iv7 H ny dy r5 r7 r9 n10 d10 ?_; clear ny dy r5 r7 r9 n10 d10; intro ny dy r5 r7 r9 n10 d10
      clear H; clear c0_0 c0_1 c0_2; obtain ⟨c0_0, c0_1, c0_2⟩ := S.c3 0 rfl; go_wp2_with fail
      generalize (.tuple #[.agg #[.bool b10, .slice p10 l10 K10, .slice q10 j10 J10], .int .i64 0] : Value) = g1
      clear c0_0 c0_1 c0_2
      refine (S.call (vdot_any (S.rats 4 rfl r5 (n := nb) (c := nb) (by rw [List.length_map]; exact HA.out.2.1.symm) (Nat.le_refl _)) (HB.out.1.to S.below) nb (by rw [List.length_map]; exact HA.out.2.1) HB.out.2.1 (by have := H6.out; omega) (k1 := 10) (k2 := 5) (rb_scale HA.out.2.2 HY.out) HB.out.2.2 (by have := H6.out; omega))).mono ?_
      clear S
      rintro e w10 ⟨⟨_, rfl, b11, p11, l11, K11, q11, j11, J11, rfl, h11, n11, d11⟩, S, H⟩
      refine iv7 H ny dy r5 r7 r9 n10 d10 ?_; clear ny dy r5 r7 r9 n10 d10; intro ny dy r5 r7 r9 n10 d10
      clear H; obtain ⟨c0_0, c0_1, c0_2⟩ := S.c3 0 rfl
      have H := S.hnew 34 [.bool b11, .slice p11 l11 K11, .slice q11 j11 J11]
      replace S := S.al 34 [.bool b11, .slice p11 l11 K11, .slice q11 j11 J11] (w10.heap.size)
      refine iv8 H ny dy r5 r7 r9 n10 d10 n11 ?_; clear ny dy r5 r7 r9 n10 d10 n11; intro ny dy r5 r7 r9 n10 d10 n11; replace d11 := d11.hold H
      clear H
      rw [dot_scale] at h11 n11 d11
      have hp : RB (dotL qa qb) 67 := (rb_dot HA.out.2.1 HB.out.2.1 HA.out.2.2 HB.out.2.2).mono (by have := H6.out; omega)
      have HP := Lib.hid (And.intro hp (rb_mul hp HY.out))
      clear hp; clear c0_0 c0_1 c0_2; obtain ⟨c0_0, c0_1, c0_2⟩ := S.c3 0 rfl; obtain ⟨c7_0, c7_1, c7_2⟩ := S.c3 7 rfl; obtain ⟨c0_0, c0_1, c0_2⟩ := S.c3 0 rfl; go_wp2_with fail
      generalize (.tuple #[.agg #[.bool b11, .slice p11 l11 K11, .slice q11 j11 J11], .int .i64 0] : Value) = g2
      clear c0_0 c0_1 c0_2
      refine (S.call (rmul_any ⟨b10, p10, l10, K10, q10, j10, J10, rfl, h10, n10, d10⟩ ⟨b, p, l, K, q, j, J, rfl, hy, ny, dy⟩ HP.out.1 HY.out (by decide) _ rfl)).mono ?_
      clear S
      rintro e w11 ⟨⟨_, rfl, b12, p12, l12, K12, q12, j12, J12, rfl, h12, n12, d12⟩, S, H⟩
      refine iv8 H ny dy r5 r7 r9 n10 d10 n11 ?_; clear ny dy r5 r7 r9 n10 d10 n11; intro ny dy r5 r7 r9 n10 d10 n11; replace d11 := d11.hold H
      clear H; obtain ⟨c0_0, c0_1, c0_2⟩ := S.c3 0 rfl; clear c0_0 c0_1 c0_2 c7_0 c7_1 c7_2; clear c0_0 c0_1 c0_2
      have H := S.hnew 34 [.bool b12, .slice p12 l12 K12, .slice q12 j12 J12]
      replace S := S.al 34 [.bool b12, .slice p12 l12 K12, .slice q12 j12 J12] (w11.heap.size)
      refine iv8 H ny dy r5 r7 r9 n10 d10 n11 ?_; clear ny dy r5 r7 r9 n10 d10 n11; intro ny dy r5 r7 r9 n10 d10 n11; refine iv3 H d11 n12 d12 ?_; clear d11 n12 d12; intro d11 n12 d12
      clear H; obtain ⟨c8_0, c8_1, c8_2⟩ := S.c3 8 rfl; obtain ⟨c9_0, c9_1, c9_2⟩ := S.c3 9 rfl; obtain ⟨c0_0, c0_1, c0_2⟩ := S.c3 0 rfl; go_wp2_with fail
      generalize (.tuple #[.agg #[.bool b12, .slice p12 l12 K12, .slice q12 j12 J12], .int .i64 0] : Value) = g3
      clear c0_0 c0_1 c0_2
      refine (S.call (rcompare_any ⟨b11, p11, l11, K11, q11, j11, J11, rfl, h11, n11, d11⟩ ⟨b12, p12, l12, K12, q12, j12, J12, rfl, h12, n12, d12⟩ HP.out.2 HP.out.2 (by decide) 0 (cmpR_eq _))).mono ?_
      clear S
      rintro e w12 ⟨rfl, S, H⟩
      refine iv8 H ny dy r5 r7 r9 n10 d10 n11 ?_; clear ny dy r5 r7 r9 n10 d10 n11; intro ny dy r5 r7 r9 n10 d10 n11; refine iv3 H d11 n12 d12 ?_; clear d11 n12 d12; intro d11 n12 d12
      clear H; obtain ⟨c0_0, c0_1, c0_2⟩ := S.c3 0 rfl; clear c8_0 c8_1 c8_2 c9_0 c9_1 c9_2; clear c0_0 c0_1 c0_2; clear n10 d10 n11 d11 n12 d12 ny dy r5; go_wp2_with fail
      refine (S.call (vsame_any (S.rats 5 rfl r7 (n := nb) (c := nb) HA.out.2.1.symm (Nat.le_refl _)) (HA.out.1.to S.below) nb HA.out.2.1 HA.out.2.1 (by have := H6.out; omega) (rb_m HA.out.2.2 (by decide)) (r := true) (decide_eq_true rfl))).mono ?_
      clear S
      rintro e w13 ⟨rfl, S, H⟩
      replace r7 := r7.hold H; replace r9 := r9.hold H
      clear H; obtain ⟨c0_0, c0_1, c0_2⟩ := S.c3 0 rfl; go_wp2_with fail; clear c0_0 c0_1 c0_2
      have HIN := S.ins
      refine (S.call (vzero_any nb (by have := H6.out; omega) _)).mono ?_
      clear S
      rintro e w14 ⟨⟨_, rfl, g13, vs13, rfl, hg, hh, r13⟩, S, H⟩
      replace r7 := r7.hold H; replace r9 := r9.hold H
      clear H; obtain ⟨c0_0, c0_1, c0_2⟩ := S.c3 0 rfl
      rw [List.length_replicate]
      replace S := S.adoptF HIN hg hh
      try simp only [List.cons_append, List.nil_append] at S
      clear HIN hg hh; go_wp2_with fail; clear c0_0 c0_1 c0_2
      refine (S.call (vsame_any (S.rats 6 rfl r9 (n := nb) (c := nb) (List.length_replicate ..).symm (Nat.le_refl _)) (S.rats 10 rfl r13 (n := nb) (c := nb) (List.length_replicate ..).symm (Nat.le_refl _)) nb (List.length_replicate ..) (List.length_replicate ..) (by have := H6.out; omega) (fun q hq => by rw [(List.mem_replicate.1 hq).2]; exact (pt_rb qv0 (by decide)).2) (r := true) (decide_eq_true rfl))).mono ?_
      clear S
      rintro e w15 ⟨rfl, S, H⟩
      refine iv3 H r7 r9 r13 ?_; clear r7 r9 r13; intro r7 r9 r13
      clear H; obtain ⟨c0_0, c0_1, c0_2⟩ := S.c3 0 rfl; go_wp2_with fail
      exact bodyPost_ret (v := .bool true) (by simp [results, Tryz.f6, go_sem]) rfl (⟨rfl, S.below⟩)
end Go.Proofs.YtcfgefbkeeedgaaGreatDoor
