/-
  What the statement stands on.
-/
import Derived.Test.YtcfgefbkeeedgaaGreatDoorM30
import Derived.Test.YtcfgefbkeeedgaaGreatDoorM42
namespace Go.Proofs.YtcfgefbkeeedgaaGreatDoor
open Go.RowKit
set_option maxRecDepth 100000 in
set_option maxHeartbeats 16000000 in
theorem vecReckons_any (va : Value) (xsa : List RawQ) (vb : Value) (xsb : List RawQ) (vc : Value) (xsc : List RawQ) (w : World) (hT : Tab w) (hRa : Raws w va xsa) (hRb : Raws w vb xsb) (hRc : Raws w vc xsc) :
    Calls Tryz.prog 5 #[va, vb, vc] w fun e w' => e = .returned (.bool true) ∧ Below w.heap.size w w' := by
  have HT := Lib.hid hT
  obtain ⟨pa, ca, rfl⟩ := hRa.form
  obtain ⟨na, hna⟩ : ∃ n, xsa.length = n := ⟨_, rfl⟩
  rw [hna] at hRa
  have HRa := Lib.hid (And.intro hRa hna)
  rw [hna]
  obtain ⟨pb, cb, rfl⟩ := hRb.form
  obtain ⟨nb, hnb⟩ : ∃ n, xsb.length = n := ⟨_, rfl⟩
  rw [hnb] at hRb
  have HRb := Lib.hid (And.intro hRb hnb)
  rw [hnb]
  obtain ⟨pc, cc, rfl⟩ := hRc.form
  obtain ⟨nc, hnc⟩ : ∃ n, xsc.length = n := ⟨_, rfl⟩
  rw [hnc] at hRc
  have HRc := Lib.hid (And.intro hRc hnc)
  rw [hnc]
  clear hT hRa hRb hna hnb hRc hnc
  have S := St.start w
  go_enter Tryz.func5, Tryz.ntmps5
  go_wp2_with fail
  refine (S.call (points_any _ (HT.out.below S.below))).mono ?_
  clear S
  rintro e w1 ⟨rfl, S, H⟩
  clear H
  have H := S.hnew 55 [.slice pa na ca, .slice pb nb cb, .slice pc nc cc]
  replace S := S.al 55 [.slice pa na ca, .slice pb nb cb, .slice pc nc cc] (w1.heap.size)
  clear H; go_wp2_with fail
  refine (S.call (vfit_any _ 3 (.slice pa na ca) xsa [(.slice pb nb cb, xsb), (.slice pc nc cc, xsc)] _ (rawll3 S 0 rfl (HRa.out.1.to S.below) (HRb.out.1.to S.below) (HRc.out.1.to S.below)) rfl (by decide))).mono ?_
  clear S
  rintro e w2 ⟨⟨ok, rfl, hok⟩, S, H⟩
  clear H
  cases ok with
  | false =>
    go_wp2_with fail
    exact bodyPost_ret (v := .bool true) (by simp [results, Tryz.f5, go_sem]) rfl (⟨rfl, S.below⟩)
  | true =>
    have hfa := hok.out rfl 0 _ _ rfl
    have hfb := hok.out rfl 1 _ _ rfl
    have hfc := hok.out rfl 2 _ _ rfl
    rw [HRa.out.2] at hfa hfb hfc
    obtain ⟨qa, ra, la, ba, _⟩ := hfa.list HRa.out.1
    obtain ⟨qb, rb, lb, bb, _⟩ := hfb.list HRb.out.1
    obtain ⟨qc, rc, lc, bc, _⟩ := hfc.list HRc.out.1
    have hnb : nb = na := by rw [← HRb.out.2]; exact hfb.1
    have hnc : nc = na := by rw [← HRc.out.2]; exact hfc.1
    subst hnb
    subst hnc
    have HA := Lib.hid (And.intro ra (And.intro la ba))
    have HB := Lib.hid (And.intro rb (And.intro lb bb))
    have HC := Lib.hid (And.intro rc (And.intro lc bc))
    clear hok hfa hfb hfc ra la ba rb lb bb rc lc bc
    by_cases h6 : 6 < nc
    · have h6' : (6 : Int) < ((nc : Nat) : Int) := by omega
      go_wp2_with fail
      exact bodyPost_ret (v := .bool true) (by simp [results, Tryz.f5, go_sem]) rfl (⟨rfl, S.below⟩)
    have h6' : ¬ (6 : Int) < ((nc : Nat) : Int) := by omega
    have HK := Lib.hid (show nc ≤ 6 ∧ nc ≤ 1000000 by omega)
    have hn9 : ((nc : Nat) : Int) ≤ 6 := by omega
    clear h6
    replace S := S.take 0 (L := []) rfl
    go_wp2_with fail
    have HIN := S.ins
    refine (S.call (vadd_any (HA.out.1.to S.below) (HB.out.1.to S.below) nc HA.out.2.1 HB.out.2.1 HK.out.2 (k1 := 5) (k2 := 5) HA.out.2.2 HB.out.2.2 (by decide))).mono ?_
    clear S
    rintro e w10 ⟨⟨_, rfl, g3, vs3, rfl, hg, hh, r3⟩, S, H⟩
    clear H
    rw [show (List.zipWith (· + ·) qa qb).length = nc from by rw [List.length_zipWith, HA.out.2.1, HB.out.2.1, Nat.min_self]]
    replace S := S.adoptF HIN hg hh
    try simp only [List.cons_append, List.nil_append] at S
    clear HIN hg hh; go_wp2_with fail
    have HIN := S.ins
    refine (S.call (vsub_any (S.rats 0 rfl r3 (n := nc) (c := nc) (by rw [List.length_zipWith, HA.out.2.1, HB.out.2.1, Nat.min_self]) (Nat.le_refl _)) (HB.out.1.to S.below) nc (by rw [List.length_zipWith, HA.out.2.1, HB.out.2.1, Nat.min_self]) HB.out.2.1 HK.out.2 (k1 := 11) (k2 := 5) (rb_zip HA.out.2.2 HB.out.2.2) HB.out.2.2 (by decide))).mono ?_
    clear S
    rintro e w11 ⟨⟨_, rfl, g4, vs4, rfl, hg, hh, r4⟩, S, H⟩
    replace r3 := r3.hold H; clear H
    rw [show (List.zipWith (· - ·) (List.zipWith (· + ·) qa qb) qb).length = nc from by rw [List.length_zipWith, List.length_zipWith, HA.out.2.1, HB.out.2.1, Nat.min_self, Nat.min_self]]
    replace S := S.adoptF HIN hg hh
    try simp only [List.cons_append, List.nil_append] at S
    clear HIN hg hh
    rw [add_sub qa qb (HA.out.2.1.trans HB.out.2.1.symm)] at r4
    go_wp2_with fail
    refine (S.call (vsame_any (S.rats 1 rfl r4 (n := nc) (c := nc) HA.out.2.1.symm (Nat.le_refl _)) (HA.out.1.to S.below) nc HA.out.2.1 HA.out.2.1 HK.out.2 (rb_m HA.out.2.2 (by decide)) (r := true) (decide_eq_true rfl))).mono ?_
    clear S
    rintro e w12 ⟨rfl, S, H⟩
    replace r3 := r3.hold H; replace r4 := r4.hold H
    clear H; clear r4
    replace S := S.take 1 rfl
    go_wp2_with fail
    go_loopw [72] (fun si wr => ∃ i : Nat, i ≤ nc ∧ si = .int .i64 i ∧ RL wr vs3 (List.zipWith (· + ·) qa qb) ∧ St w wr [(g3, 34, vs3)]) (fun si _ => nc - (intOf si).toNat)
    case atStart => exact ⟨0, by omega, rfl, r3, S⟩
    case round =>
      clear S r3
      obtain ⟨i, hi, rfl, r3, S⟩ := hrel
      by_cases hlt : i < nc
      · obtain ⟨ga, oa, x, v0, v1, v2, rfl, hga, hqa, a0, a1, a2, b5, p5, l5, K5, q5, j5, J5, rfl, rfl, rfl, h5, n5, d5⟩ := HA.out.1.get hlt
        obtain ⟨gb, ob, y, v0, v1, v2, rfl, hgb, hqb, b0, b1, b2, b6, p6, l6, K6, q6, j6, J6, rfl, rfl, rfl, h6, n6, d6⟩ := HB.out.1.get hlt
        have HAC := Lib.hid (And.intro hga (And.intro a0 (And.intro a1 a2)))
        have HBC := Lib.hid (And.intro hgb (And.intro b0 (And.intro b1 b2)))
        replace n5 := n5.below S.below (Nat.le_refl _); replace d5 := d5.below S.below (Nat.le_refl _)
        replace n6 := n6.below S.below (Nat.le_refl _); replace d6 := d6.below S.below (Nat.le_refl _)
        have hs : (List.zipWith (· + ·) qa qb)[i]? = some (x + y) := by rw [List.getElem?_zipWith, hqa, hqb]
        have hki : (i : Int) < ((nc : Nat) : Int) := by omega
        have hi9 : (i : Int) ≤ 6 := by omega
        have HQ := Lib.hid (And.intro hlt (And.intro hs (And.intro (HA.out.2.2 x (List.mem_of_getElem? hqa)) (HB.out.2.2 y (List.mem_of_getElem? hqb)))))
        clear hlt hi hqa hqb hga hgb a0 a1 a2 b0 b1 b2 hs
        go_upto_region 12 with fail
        go_cut [12, 13] (fun s12 s13 wx => ∃ g12 b7 p7 l7 K7 q7 j7 J7, s12 = .pointer (some ⟨g12, 0, none⟩) ∧ s13 = .int .i64 0 ∧ St w wx [(g3, 34, vs3), (g12, 34, [.bool b7, .slice p7 l7 K7, .slice q7 j7 J7])] ∧ Hid (negB (x + y).num = b7) ∧ IsNat wx (.slice p7 l7 K7) (x + y).num.natAbs ∧ IsNat wx (.slice q7 j7 J7) (x + y).den ∧ Hold wr wx)
        case first =>
          have HH := Hold.drew wr
          refine iv5 HH r3 n5 d5 n6 d6 ?_; clear r3 n5 d5 n6 d6; intro r3 n5 d5 n6 d6
          replace S := S.drew
          refine wp_region_held_drew (S := fun W => W.cell? ⟨ga, oa + i * 3, none⟩ = some (.bool b5) ∧ W.cell? ⟨ga, oa + i * 3 + 1, none⟩ = some (.slice p5 l5 K5) ∧ W.cell? ⟨ga, oa + i * 3 + 2, none⟩ = some (.slice q5 j5 J5) ∧ W.cell? ⟨gb, ob + i * 3, none⟩ = some (.bool b6) ∧ W.cell? ⟨gb, ob + i * 3 + 1, none⟩ = some (.slice p6 l6 K6) ∧ W.cell? ⟨gb, ob + i * 3 + 2, none⟩ = some (.slice q6 j6 J6)) (by kernel_rfl) ⟨(S.below.cell (p := ⟨ga, oa + i * 3, none⟩) HAC.out.1).trans HAC.out.2.1, ⟨(S.below.cell (p := ⟨ga, oa + i * 3 + 1, none⟩) HAC.out.1).trans HAC.out.2.2.1, ⟨(S.below.cell (p := ⟨ga, oa + i * 3 + 2, none⟩) HAC.out.1).trans HAC.out.2.2.2, ⟨(S.below.cell (p := ⟨gb, ob + i * 3, none⟩) HBC.out.1).trans HBC.out.2.1, ⟨(S.below.cell (p := ⟨gb, ob + i * 3 + 1, none⟩) HBC.out.1).trans HBC.out.2.2.1, (S.below.cell (p := ⟨gb, ob + i * 3 + 2, none⟩) HBC.out.1).trans HBC.out.2.2.2⟩⟩⟩⟩⟩ (fun hS => ?_)
          generalize wr.drew = w21 at S r3 n5 d5 n6 d6 HH hS ⊢
          refine tk 0 hS ?_
          refine tk 1 hS ?_
          refine tk 2 hS ?_
          refine tk 3 hS ?_
          refine tk 4 hS ?_
          refine tk 5 hS ?_
          refine tk 6 hS ?_
          refine tk 7 hS ?_
          refine wpAnyH_ready (rs := [8, 12]) (by kernel_rfl) (by simp) (AllReadyH.cons (opOf rfl) (fun KK hKK => ?_) (AllReadyH.cons (opOf rfl) (fun KK hKK => ?_) AllReadyH.nil))
          ·
            go_simp; clear hS
            refine (S.call (radd_any ⟨b5, p5, l5, K5, q5, j5, J5, rfl, h5, n5, d5⟩ ⟨b6, p6, l6, K6, q6, j6, J6, rfl, h6, n6, d6⟩ HQ.out.2.2.1 HQ.out.2.2.2 (by decide) _ rfl)).mono ?_
            clear S
            rintro e w22 ⟨⟨_, rfl, b7, p7, l7, K7, q7, j7, J7, rfl, h7, n7, d7⟩, S, H⟩
            refine iv5 H r3 n5 d5 n6 d6 ?_; clear r3 n5 d5 n6 d6; intro r3 n5 d5 n6 d6; replace HH := HH.trans H; clear H
            go_wp2_with fail
            refine ho hKK ⟨(S.below.cell (p := ⟨ga, oa + i * 3, none⟩) HAC.out.1).trans HAC.out.2.1, ⟨(S.below.cell (p := ⟨ga, oa + i * 3 + 1, none⟩) HAC.out.1).trans HAC.out.2.2.1, ⟨(S.below.cell (p := ⟨ga, oa + i * 3 + 2, none⟩) HAC.out.1).trans HAC.out.2.2.2, ⟨(S.below.cell (p := ⟨gb, ob + i * 3, none⟩) HBC.out.1).trans HBC.out.2.1, ⟨(S.below.cell (p := ⟨gb, ob + i * 3 + 1, none⟩) HBC.out.1).trans HBC.out.2.2.1, (S.below.cell (p := ⟨gb, ob + i * 3 + 2, none⟩) HBC.out.1).trans HBC.out.2.2.2⟩⟩⟩⟩⟩ fun hS => ?_
            clear hKK KK
            refine tk 9 hS ?_
            refine tk 10 hS ?_
            refine tk 11 hS ?_
            refine rd 12 fun KK hKK => ?_
            go_simp; clear hS
            have H := S.hnew 34 [.bool false, .slice none 0 0, .slice none 0 0]
            replace S := S.al 34 [.bool false, .slice none 0 0, .slice none 0 0] (w22.heap.size)
            refine iv7 H r3 n5 d5 n6 d6 n7 d7 ?_; clear r3 n5 d5 n6 d6 n7 d7; intro r3 n5 d5 n6 d6 n7 d7; replace HH := HH.trans H; clear H
            refine ho hKK ⟨(S.below.cell (p := ⟨ga, oa + i * 3, none⟩) HAC.out.1).trans HAC.out.2.1, ⟨(S.below.cell (p := ⟨ga, oa + i * 3 + 1, none⟩) HAC.out.1).trans HAC.out.2.2.1, ⟨(S.below.cell (p := ⟨ga, oa + i * 3 + 2, none⟩) HAC.out.1).trans HAC.out.2.2.2, ⟨(S.below.cell (p := ⟨gb, ob + i * 3, none⟩) HBC.out.1).trans HBC.out.2.1, ⟨(S.below.cell (p := ⟨gb, ob + i * 3 + 1, none⟩) HBC.out.1).trans HBC.out.2.2.1, (S.below.cell (p := ⟨gb, ob + i * 3 + 2, none⟩) HBC.out.1).trans HBC.out.2.2.2⟩⟩⟩⟩⟩ fun hS => ?_
            generalize (w22.alloc (.cells #[.bool false, .slice none 0 0, .slice none 0 0] 34)) = w23 at S r3 n5 d5 n6 d6 n7 d7 HH hS ⊢
            clear hKK KK
            refine rd 13 fun KK hKK => ?_
            obtain ⟨c0, c1, c2⟩ := S.c3 1 rfl; obtain ⟨f0, f1, f2⟩ := S.f3 1 rfl
            go_simp; clear hS c0 f0 c1 f1 c2 f2
            have HP := S.putq 1 (.bool b7) (.slice p7 l7 K7) (.slice q7 j7 J7) rfl rfl; have H := HP.2; replace S := HP.1; clear HP
            refine iv7 H r3 n5 d5 n6 d6 n7 d7 ?_; clear r3 n5 d5 n6 d6 n7 d7; intro r3 n5 d5 n6 d6 n7 d7; replace HH := HH.trans H; clear H
            refine ho hKK ⟨(S.below.cell (p := ⟨ga, oa + i * 3, none⟩) HAC.out.1).trans HAC.out.2.1, ⟨(S.below.cell (p := ⟨ga, oa + i * 3 + 1, none⟩) HAC.out.1).trans HAC.out.2.2.1, ⟨(S.below.cell (p := ⟨ga, oa + i * 3 + 2, none⟩) HAC.out.1).trans HAC.out.2.2.2, ⟨(S.below.cell (p := ⟨gb, ob + i * 3, none⟩) HBC.out.1).trans HBC.out.2.1, ⟨(S.below.cell (p := ⟨gb, ob + i * 3 + 1, none⟩) HBC.out.1).trans HBC.out.2.2.1, (S.below.cell (p := ⟨gb, ob + i * 3 + 2, none⟩) HBC.out.1).trans HBC.out.2.2.2⟩⟩⟩⟩⟩ fun hS => ?_
            generalize (((w23.setCell ⟨w22.heap.size, 0, none⟩ (.bool b7)).setCell ⟨w22.heap.size, 1, none⟩ (.slice p7 l7 K7)).setCell ⟨w22.heap.size, 2, none⟩ (.slice q7 j7 J7)) = w24 at S r3 n5 d5 n6 d6 n7 d7 HH hS ⊢
            clear hKK KK
            refine rd 14 fun KK hKK => ?_
            go_simp
            refine ho hKK hS fun hS => ?_
            clear hKK KK
            refine wpAnyH_done (by kernel_rfl) ?_ _
            go_wp2_with fail
            go_meet
            case rel => exact ⟨w22.heap.size, b7, p7, l7, K7, q7, j7, J7, rfl, rfl, S, h7, n7, d7, HH⟩
          ·
            go_simp; clear hS
            have H := S.hnew 34 [.bool false, .slice none 0 0, .slice none 0 0]
            replace S := S.al 34 [.bool false, .slice none 0 0, .slice none 0 0] (w21.heap.size)
            refine iv5 H r3 n5 d5 n6 d6 ?_; clear r3 n5 d5 n6 d6; intro r3 n5 d5 n6 d6; replace HH := HH.trans H; clear H
            refine ho hKK ⟨(S.below.cell (p := ⟨ga, oa + i * 3, none⟩) HAC.out.1).trans HAC.out.2.1, ⟨(S.below.cell (p := ⟨ga, oa + i * 3 + 1, none⟩) HAC.out.1).trans HAC.out.2.2.1, ⟨(S.below.cell (p := ⟨ga, oa + i * 3 + 2, none⟩) HAC.out.1).trans HAC.out.2.2.2, ⟨(S.below.cell (p := ⟨gb, ob + i * 3, none⟩) HBC.out.1).trans HBC.out.2.1, ⟨(S.below.cell (p := ⟨gb, ob + i * 3 + 1, none⟩) HBC.out.1).trans HBC.out.2.2.1, (S.below.cell (p := ⟨gb, ob + i * 3 + 2, none⟩) HBC.out.1).trans HBC.out.2.2.2⟩⟩⟩⟩⟩ fun hS => ?_
            generalize (w21.alloc (.cells #[.bool false, .slice none 0 0, .slice none 0 0] 34)) = w25 at S r3 n5 d5 n6 d6 HH hS ⊢
            clear hKK KK
            refine rd 8 fun KK hKK => ?_
            go_simp; clear hS
            refine (S.call (radd_any ⟨b5, p5, l5, K5, q5, j5, J5, rfl, h5, n5, d5⟩ ⟨b6, p6, l6, K6, q6, j6, J6, rfl, h6, n6, d6⟩ HQ.out.2.2.1 HQ.out.2.2.2 (by decide) _ rfl)).mono ?_
            clear S
            rintro e w26 ⟨⟨_, rfl, b7, p7, l7, K7, q7, j7, J7, rfl, h7, n7, d7⟩, S, H⟩
            refine iv5 H r3 n5 d5 n6 d6 ?_; clear r3 n5 d5 n6 d6; intro r3 n5 d5 n6 d6; replace HH := HH.trans H; clear H
            go_wp2_with fail
            refine ho hKK ⟨(S.below.cell (p := ⟨ga, oa + i * 3, none⟩) HAC.out.1).trans HAC.out.2.1, ⟨(S.below.cell (p := ⟨ga, oa + i * 3 + 1, none⟩) HAC.out.1).trans HAC.out.2.2.1, ⟨(S.below.cell (p := ⟨ga, oa + i * 3 + 2, none⟩) HAC.out.1).trans HAC.out.2.2.2, ⟨(S.below.cell (p := ⟨gb, ob + i * 3, none⟩) HBC.out.1).trans HBC.out.2.1, ⟨(S.below.cell (p := ⟨gb, ob + i * 3 + 1, none⟩) HBC.out.1).trans HBC.out.2.2.1, (S.below.cell (p := ⟨gb, ob + i * 3 + 2, none⟩) HBC.out.1).trans HBC.out.2.2.2⟩⟩⟩⟩⟩ fun hS => ?_
            clear hKK KK
            refine tk 9 hS ?_
            refine tk 10 hS ?_
            refine tk 11 hS ?_
            refine rd 13 fun KK hKK => ?_
            obtain ⟨c0, c1, c2⟩ := S.c3 1 rfl; obtain ⟨f0, f1, f2⟩ := S.f3 1 rfl
            go_simp; clear hS c0 f0 c1 f1 c2 f2
            have HP := S.putq 1 (.bool b7) (.slice p7 l7 K7) (.slice q7 j7 J7) rfl rfl; have H := HP.2; replace S := HP.1; clear HP
            refine iv7 H r3 n5 d5 n6 d6 n7 d7 ?_; clear r3 n5 d5 n6 d6 n7 d7; intro r3 n5 d5 n6 d6 n7 d7; replace HH := HH.trans H; clear H
            refine ho hKK ⟨(S.below.cell (p := ⟨ga, oa + i * 3, none⟩) HAC.out.1).trans HAC.out.2.1, ⟨(S.below.cell (p := ⟨ga, oa + i * 3 + 1, none⟩) HAC.out.1).trans HAC.out.2.2.1, ⟨(S.below.cell (p := ⟨ga, oa + i * 3 + 2, none⟩) HAC.out.1).trans HAC.out.2.2.2, ⟨(S.below.cell (p := ⟨gb, ob + i * 3, none⟩) HBC.out.1).trans HBC.out.2.1, ⟨(S.below.cell (p := ⟨gb, ob + i * 3 + 1, none⟩) HBC.out.1).trans HBC.out.2.2.1, (S.below.cell (p := ⟨gb, ob + i * 3 + 2, none⟩) HBC.out.1).trans HBC.out.2.2.2⟩⟩⟩⟩⟩ fun hS => ?_
            generalize (((w26.setCell ⟨w21.heap.size, 0, none⟩ (.bool b7)).setCell ⟨w21.heap.size, 1, none⟩ (.slice p7 l7 K7)).setCell ⟨w21.heap.size, 2, none⟩ (.slice q7 j7 J7)) = w27 at S r3 n5 d5 n6 d6 n7 d7 HH hS ⊢
            clear hKK KK
            refine rd 14 fun KK hKK => ?_
            go_simp
            refine ho hKK hS fun hS => ?_
            clear hKK KK
            refine wpAnyH_done (by kernel_rfl) ?_ _
            go_wp2_with fail
            go_meet
            case rel => exact ⟨w21.heap.size, b7, p7, l7, K7, q7, j7, J7, rfl, rfl, S, h7, n7, d7, HH⟩
        case rest =>
          obtain ⟨g12, b7, p7, l7, K7, q7, j7, J7, rfl, rfl, S, h7, n7, d7, HH⟩ := hcut
          obtain ⟨w28, rfl⟩ : ∃ W : World, W = wc := ⟨_, rfl⟩
          refine iv5 HH r3 n5 d5 n6 d6 ?_; clear r3 n5 d5 n6 d6; intro r3 n5 d5 n6 d6; clear HH
          obtain ⟨_, _, _, k0, k1, k2, b8, p8, l8, K8, q8, j8, J8, rfl, rfl, rfl, h8, n8, d8⟩ := r3.get HQ.out.2.1
          clear n5 d5 n6 d6; clear h5 h6
          have HXY := Lib.hid (rb_add HQ.out.2.2.1 HQ.out.2.2.2)
          obtain ⟨c1_0, c1_1, c1_2⟩ := S.c3 1 rfl
          go_upto_region 13 with fail
          clear c1_0 c1_1 c1_2
          replace r3 := r3.hold (Hold.drew _); replace n7 := n7.hold (Hold.drew _); replace d7 := d7.hold (Hold.drew _); replace n8 := n8.hold (Hold.drew _); replace d8 := d8.hold (Hold.drew _)
          replace S := S.drew
          refine wp_region_held_drew (S := fun W => W.cell? ⟨g12, 0, none⟩ = some (.bool b7) ∧ W.cell? ⟨g12, 1, none⟩ = some (.slice p7 l7 K7) ∧ W.cell? ⟨g12, 2, none⟩ = some (.slice q7 j7 J7) ∧ W.cell? ⟨g3, i * 3, none⟩ = some (.bool b8) ∧ W.cell? ⟨g3, i * 3 + 1, none⟩ = some (.slice p8 l8 K8) ∧ W.cell? ⟨g3, i * 3 + 2, none⟩ = some (.slice q8 j8 J8)) (by kernel_rfl) (con3 (S.c3 1 rfl) ⟨S.c 0 _ rfl k0, ⟨S.c 0 _ rfl k1, S.c 0 _ rfl k2⟩⟩) (fun hS => ?_)
          refine tk 0 hS ?_
          refine tk 1 hS ?_
          refine tk 2 hS ?_
          refine tk 3 hS ?_
          refine tk 4 hS ?_
          refine rd 5 fun KK hKK => ?_
          go_simp
          refine (S.call (rcompare_any ⟨b7, p7, l7, K7, q7, j7, J7, rfl, h7, n7, d7⟩ ⟨b8, p8, l8, K8, q8, j8, J8, rfl, h8, n8, d8⟩ HXY.out HXY.out (by decide) 0 (cmpR_eq _))).mono ?_; clear S; rintro e w29 ⟨rfl, S, H⟩; refine iv5 H r3 n7 d7 n8 d8 ?_; clear r3 n7 d7 n8 d8; intro r3 n7 d7 n8 d8; clear H
          go_wp2_with fail
          refine ho hKK (con3 (S.c3 1 rfl) ⟨S.c 0 _ rfl k0, ⟨S.c 0 _ rfl k1, S.c 0 _ rfl k2⟩⟩) fun hS => ?_
          clear hKK KK
          refine tk 6 hS ?_
          refine tk 7 hS ?_
          refine tk 8 hS ?_
          refine rd 9 fun KK hKK => ?_
          go_simp
          refine ho hKK (con3 (S.c3 1 rfl) ⟨S.c 0 _ rfl k0, ⟨S.c 0 _ rfl k1, S.c 0 _ rfl k2⟩⟩) fun hS => ?_
          clear hKK KK
          refine rd 10 fun KK hKK => ?_
          go_simp
          refine ho hKK (con3 (S.c3 1 rfl) ⟨S.c 0 _ rfl k0, ⟨S.c 0 _ rfl k1, S.c 0 _ rfl k2⟩⟩) fun hS => ?_
          clear hKK KK
          refine wpAnyH_done (by kernel_rfl) ?_ _
          clear n7 d7 n8 d8; clear h7 h8 k0 k1 k2; go_wp2_with fail
          replace S := S.take 1 rfl
          go_roundw
          case rel => exact ⟨i + 1, HQ.out.1, by go_num, r3, S⟩
          case measure => have := HQ.out.1; simp [intOf]; omega
      · have hki : ¬ (i : Int) < ((nc : Nat) : Int) := by omega
        clear hlt hi; go_wp2_with fail
        refine (S.call (vdot_any (S.rats 0 rfl r3 (n := nc) (c := nc) (by rw [List.length_zipWith, HA.out.2.1, HB.out.2.1, Nat.min_self]) (Nat.le_refl _)) (HC.out.1.to S.below) nc (by rw [List.length_zipWith, HA.out.2.1, HB.out.2.1, Nat.min_self]) HC.out.2.1 (by have := HK.out; omega) (k1 := 11) (k2 := 5) (rb_zip HA.out.2.2 HB.out.2.2) HC.out.2.2 (by have := HK.out; omega))).mono ?_
        clear S
        rintro e w61 ⟨⟨_, rfl, b10, p10, l10, K10, q10, j10, J10, rfl, h10, n10, d10⟩, S, H⟩
        replace r3 := r3.hold H; clear H
        have H := S.hnew 34 [.bool b10, .slice p10 l10 K10, .slice q10 j10 J10]
        replace S := S.al 34 [.bool b10, .slice p10 l10 K10, .slice q10 j10 J10] (w61.heap.size)
        refine iv3 H r3 n10 d10 ?_; clear r3 n10 d10; intro r3 n10 d10
        clear H; go_wp2_with fail
        generalize (.tuple #[.agg #[.bool b10, .slice p10 l10 K10, .slice q10 j10 J10], .int .i64 0] : Value) = g1
        refine (S.call (vdot_any (HA.out.1.to S.below) (HC.out.1.to S.below) nc HA.out.2.1 HC.out.2.1 (by have := HK.out; omega) (k1 := 5) (k2 := 5) HA.out.2.2 HC.out.2.2 (by have := HK.out; omega))).mono ?_
        clear S
        rintro e w62 ⟨⟨_, rfl, b11, p11, l11, K11, q11, j11, J11, rfl, h11, n11, d11⟩, S, H⟩
        refine iv3 H r3 n10 d10 ?_; clear r3 n10 d10; intro r3 n10 d10
        clear H
        have H := S.hnew 34 [.bool b11, .slice p11 l11 K11, .slice q11 j11 J11]
        replace S := S.al 34 [.bool b11, .slice p11 l11 K11, .slice q11 j11 J11] (w62.heap.size)
        refine iv5 H r3 n10 d10 n11 d11 ?_; clear r3 n10 d10 n11 d11; intro r3 n10 d10 n11 d11
        clear H; go_wp2_with fail
        generalize (.tuple #[.agg #[.bool b11, .slice p11 l11 K11, .slice q11 j11 J11], .int .i64 0] : Value) = g2
        refine (S.call (vdot_any (HC.out.1.to S.below) (HB.out.1.to S.below) nc HC.out.2.1 HB.out.2.1 (by have := HK.out; omega) (k1 := 5) (k2 := 5) HC.out.2.2 HB.out.2.2 (by have := HK.out; omega))).mono ?_
        clear S
        rintro e w63 ⟨⟨_, rfl, b12, p12, l12, K12, q12, j12, J12, rfl, h12, n12, d12⟩, S, H⟩
        refine iv5 H r3 n10 d10 n11 d11 ?_; clear r3 n10 d10 n11 d11; intro r3 n10 d10 n11 d11
        clear H
        have H := S.hnew 34 [.bool b12, .slice p12 l12 K12, .slice q12 j12 J12]
        replace S := S.al 34 [.bool b12, .slice p12 l12 K12, .slice q12 j12 J12] (w63.heap.size)
        refine iv7 H r3 n10 d10 n11 d11 n12 d12 ?_; clear r3 n10 d10 n11 d11 n12 d12; intro r3 n10 d10 n11 d11 n12 d12
        clear H
        have hp : RB (dotL qa qc) 67 := (rb_dot HA.out.2.1 HC.out.2.1 HA.out.2.2 HC.out.2.2).mono (by have := HK.out; omega)
        have hq : RB (dotL qc qb) 67 := (rb_dot HC.out.2.1 HB.out.2.1 HC.out.2.2 HB.out.2.2).mono (by have := HK.out; omega)
        have HP := Lib.hid (And.intro hp (And.intro hq (rb_add hp hq)))
        clear hp hq; clear r3; obtain ⟨c2_0, c2_1, c2_2⟩ := S.c3 2 rfl; obtain ⟨c3_0, c3_1, c3_2⟩ := S.c3 3 rfl; go_wp2_with fail
        generalize (.tuple #[.agg #[.bool b12, .slice p12 l12 K12, .slice q12 j12 J12], .int .i64 0] : Value) = g3
        refine (S.call (radd_any ⟨b11, p11, l11, K11, q11, j11, J11, rfl, h11, n11, d11⟩ ⟨b12, p12, l12, K12, q12, j12, J12, rfl, h12, n12, d12⟩ HP.out.1 HP.out.2.1 (by decide) _ rfl)).mono ?_
        clear S
        rintro e w64 ⟨⟨_, rfl, b13, p13, l13, K13, q13, j13, J13, rfl, h13, n13, d13⟩, S, H⟩
        refine iv6 H n10 d10 n11 d11 n12 d12 ?_; clear n10 d10 n11 d11 n12 d12; intro n10 d10 n11 d11 n12 d12
        clear H; clear c2_0 c2_1 c2_2 c3_0 c3_1 c3_2
        have H := S.hnew 34 [.bool b13, .slice p13 l13 K13, .slice q13 j13 J13]
        replace S := S.al 34 [.bool b13, .slice p13 l13 K13, .slice q13 j13 J13] (w64.heap.size)
        refine iv8 H n10 d10 n11 d11 n12 d12 n13 d13 ?_; clear n10 d10 n11 d11 n12 d12 n13 d13; intro n10 d10 n11 d11 n12 d12 n13 d13
        clear H
        have e : dotL (List.zipWith (· + ·) qa qb) qc = dotL qa qc + dotL qc qb := by rw [dot_add qa qb qc (HA.out.2.1.trans HB.out.2.1.symm), dot_comm qb qc]
        rw [e] at h10 n10 d10
        clear e; obtain ⟨c1_0, c1_1, c1_2⟩ := S.c3 1 rfl; obtain ⟨c4_0, c4_1, c4_2⟩ := S.c3 4 rfl; go_wp2_with fail
        generalize (.tuple #[.agg #[.bool b13, .slice p13 l13 K13, .slice q13 j13 J13], .int .i64 0] : Value) = g4
        refine (S.call (rcompare_any ⟨b10, p10, l10, K10, q10, j10, J10, rfl, h10, n10, d10⟩ ⟨b13, p13, l13, K13, q13, j13, J13, rfl, h13, n13, d13⟩ HP.out.2.2 HP.out.2.2 (by decide) 0 (cmpR_eq _))).mono ?_
        clear S
        rintro e w65 ⟨rfl, S, H⟩
        refine iv8 H n10 d10 n11 d11 n12 d12 n13 d13 ?_; clear n10 d10 n11 d11 n12 d12 n13 d13; intro n10 d10 n11 d11 n12 d12 n13 d13
        clear H; clear c1_0 c1_1 c1_2 c4_0 c4_1 c4_2; go_wp2_with fail
        exact bodyPost_ret (v := .bool true) (by simp [results, Tryz.f5, go_sem]) rfl (⟨rfl, S.below⟩)
end Go.Proofs.YtcfgefbkeeedgaaGreatDoor
