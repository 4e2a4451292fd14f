/-
  What the statement stands on.
-/
import Derived.Test.YtcdmojefheipoaaGreatDoorM31
import Derived.Test.YtcdmojefheipoaaGreatDoorM34
namespace Go.Proofs.YtcdmojefheipoaaGreatDoor
open Go.RowKit
set_option maxRecDepth 100000 in
set_option maxHeartbeats 16000000 in
theorem spanHolds_any (b1 : Bool) (p1 : Option Addr) (K1 : Nat) (ds1 : List Nat) (e1 : Int) (b2 : Bool) (p2 : Option Addr) (K2 : Nat) (ds2 : List Nat) (e2 : Int) (b3 : Bool) (p3 : Option Addr) (K3 : Nat) (ds3 : List Nat) (e3 : Int) (b4 : Bool) (p4 : Option Addr) (K4 : Nat) (ds4 : List Nat) (e4 : Int) (y1 y2 y3 : Int) (w : World) (hT : Tab w) (at1 : At .u32 w p1 K1 ds1) (dd1 : Dig 4294967296 ds1) (at2 : At .u32 w p2 K2 ds2) (dd2 : Dig 4294967296 ds2) (at3 : At .u32 w p3 K3 ds3) (dd3 : Dig 4294967296 ds3) (at4 : At .u32 w p4 K4 ds4) (dd4 : Dig 4294967296 ds4) :
    Calls Tryz.prog 3 #[.agg #[.bool b1, .slice p1 ds1.length K1, .int .i64 e1, .bool b2, .slice p2 ds2.length K2, .int .i64 e2], .agg #[.bool b3, .slice p3 ds3.length K3, .int .i64 e3, .bool b4, .slice p4 ds4.length K4, .int .i64 e4], .agg #[.int .i64 y1, .int .i64 y2, .int .i64 y3]] w fun e w' => e = .returned (.bool true) ∧ Below w.heap.size w w' := by
  have HT := Lib.hid hT
  have HD1 := Lib.hid dd1
  obtain ⟨l1, hl1⟩ : ∃ l, ds1.length = l := ⟨_, rfl⟩
  have HL1 := Lib.hid hl1
  rw [hl1]
  have HD2 := Lib.hid dd2
  obtain ⟨l2, hl2⟩ : ∃ l, ds2.length = l := ⟨_, rfl⟩
  have HL2 := Lib.hid hl2
  rw [hl2]
  have HD3 := Lib.hid dd3
  obtain ⟨l3, hl3⟩ : ∃ l, ds3.length = l := ⟨_, rfl⟩
  have HL3 := Lib.hid hl3
  rw [hl3]
  have HD4 := Lib.hid dd4
  obtain ⟨l4, hl4⟩ : ∃ l, ds4.length = l := ⟨_, rfl⟩
  have HL4 := Lib.hid hl4
  rw [hl4]
  clear hT dd1 hl1 dd2 hl2 dd3 hl3 dd4 hl4
  have S := (((St.start w).alloc 29 [.bool b1, .slice p1 l1 K1, .int .i64 e1, .bool b2, .slice p2 l2 K2, .int .i64 e2] (w.heap.size)).alloc 29 [.bool b3, .slice p3 l3 K3, .int .i64 e3, .bool b4, .slice p4 l4 K4, .int .i64 e4] (w.heap.size + 1)).alloc 30 [.int .i64 y1, .int .i64 y2, .int .i64 y3] (w.heap.size + 1 + 1)
  try simp only [List.cons_append, List.nil_append] at S
  refine iv4 S.hold at1 at2 at3 at4 ?_; clear at1 at2 at3 at4; intro at1 at2 at3 at4
  have c0_ := S.c6 0 rfl; have c1_ := S.c6 1 rfl; have c2_ := S.c3 2 rfl
  go_enter Tryz.func3, Tryz.ntmps3
  go_wp2_with fail; clear c0_ c1_ c2_
  refine S.cl (between_any _ (HT.out.below S.below)) ?_; clear S; rintro e w1 rfl S H
  refine iv4 H at1 at2 at3 at4 ?_; clear at1 at2 at3 at4; intro at1 at2 at3 at4
  clear H; have c0_ := S.c6 0 rfl; have c1_ := S.c6 1 rfl; have c2_ := S.c3 2 rfl
  have H := S.hnew 29 [.bool b1, .slice p1 l1 K1, .int .i64 e1, .bool b2, .slice p2 l2 K2, .int .i64 e2, .bool b3, .slice p3 l3 K3, .int .i64 e3, .bool b4, .slice p4 l4 K4, .int .i64 e4]
  replace S := S.al 29 [.bool b1, .slice p1 l1 K1, .int .i64 e1, .bool b2, .slice p2 l2 K2, .int .i64 e2, .bool b3, .slice p3 l3 K3, .int .i64 e3, .bool b4, .slice p4 l4 K4, .int .i64 e4] (w1.heap.size)
  refine iv4 H at1 at2 at3 at4 ?_; clear at1 at2 at3 at4; intro at1 at2 at3 at4
  clear H; go_wp2_with fail; clear c0_ c1_ c2_
  refine S.cl (sfit_at _ 2 _ _ (HT.out.below S.below) (S.lt 3 rfl) (by decide) (spraw2 S 3 rfl HL1.out HL2.out HL3.out HL4.out at1 HD1.out at2 HD2.out at3 HD3.out at4 HD4.out)) ?_; clear S; rintro e w2 ⟨ok, rfl, hok⟩ S H
  refine iv4 H at1 at2 at3 at4 ?_; clear at1 at2 at3 at4; intro at1 at2 at3 at4
  clear H; have c0_ := S.c6 0 rfl; have c1_ := S.c6 1 rfl; have c2_ := S.c3 2 rfl
  cases ok with
  | false =>
    go_wp2_with fail
    exact bodyPost_ret (v := .bool true) (by simp [results, Tryz.f3, go_sem]) rfl (⟨rfl, S.below⟩)
  | true =>
    obtain ⟨t1, t2, t1x⟩ : TriedS ⟨b1, b2, p1, p2, ds1, ds2, K1, K2, e1, e2⟩ := hok.out rfl 0 (by decide)
    obtain ⟨x1, hx1⟩ : ∃ x, rawQ b1 ds1 e1 = x := ⟨_, rfl⟩
    obtain ⟨m1, h1, n1, d1⟩ := raw_num hx1 t1 HD1.out HL1.out at1
    obtain ⟨x2, hx2⟩ : ∃ x, rawQ b2 ds2 e2 = x := ⟨_, rfl⟩
    obtain ⟨m2, h2, n2, d2⟩ := raw_num hx2 t2 HD2.out HL2.out at2
    have g1 : x1 ≤ x2 := by rw [← hx1, ← hx2]; exact Rat.not_lt.1 t1x
    clear t1 t2 t1x hx1 hx2
    obtain ⟨t3, t4, t3x⟩ : TriedS ⟨b3, b4, p3, p4, ds3, ds4, K3, K4, e3, e4⟩ := hok.out rfl 1 (by decide)
    obtain ⟨x3, hx3⟩ : ∃ x, rawQ b3 ds3 e3 = x := ⟨_, rfl⟩
    obtain ⟨m3, h3, n3, d3⟩ := raw_num hx3 t3 HD3.out HL3.out at3
    obtain ⟨x4, hx4⟩ : ∃ x, rawQ b4 ds4 e4 = x := ⟨_, rfl⟩
    obtain ⟨m4, h4, n4, d4⟩ := raw_num hx4 t4 HD4.out HL4.out at4
    have g3 : x3 ≤ x4 := by rw [← hx3, ← hx4]; exact Rat.not_lt.1 t3x
    clear t3 t4 t3x hx3 hx4
    have G := Lib.hid (And.intro g1 g3)
    clear hok g1 g3; clear at1 at2 at3 at4; clear c0_ c1_ c2_
    replace S := S.take 3 (L := [(w.heap.size, 29, [.bool b1, .slice p1 l1 K1, .int .i64 e1, .bool b2, .slice p2 l2 K2, .int .i64 e2]), (w.heap.size + 1, 29, [.bool b3, .slice p3 l3 K3, .int .i64 e3, .bool b4, .slice p4 l4 K4, .int .i64 e4]), (w.heap.size + 1 + 1, 30, [.int .i64 y1, .int .i64 y2, .int .i64 y3])]) rfl
    by_cases hb1 : y3 < 2
    ·
      go_wp2_with fail
      exact bodyPost_ret (v := .bool true) (by simp [results, Tryz.f3, go_sem]) rfl (⟨rfl, S.below⟩)
    by_cases hb2 : 500 < y3
    ·
      go_wp2_with fail
      exact bodyPost_ret (v := .bool true) (by simp [results, Tryz.f3, go_sem]) rfl (⟨rfl, S.below⟩)
    obtain ⟨k, hk⟩ : ∃ k : Nat, (k : Int) = y3 := ⟨y3.toNat, by omega⟩
    subst hk
    have HK := Lib.hid (show 2 ≤ k ∧ k ≤ 4096 by omega)
    have D1 := d1.out.dyx
    have D2 := d2.out.dyx
    have D3 := d3.out.dyx
    have D4 := d4.out.dyx
    have HD := Lib.hid (And.intro D1 (And.intro D2 (And.intro D3 D4)))
    clear D1 D2 D3 D4; have c0_ := S.c6 0 rfl; have c1_ := S.c6 1 rfl; have c2_ := S.c3 2 rfl
    go_upto_region 6 with fail
    clear c0_ c1_ c2_
    go_cut [8, 9] (fun s8 s9 wx => ∃ g8 g9 b21 p21 l21 K21 q21 j21 J21 b22 p22 l22 K22 q22 j22 J22, ∃ z21 z22 : Rat, s8 = .pointer (some ⟨g8, 0, none⟩) ∧ s9 = .pointer (some ⟨g9, 0, none⟩) ∧ Su w wx [(w.heap.size, 29, [.bool b1, .slice p1 l1 K1, .int .i64 e1, .bool b2, .slice p2 l2 K2, .int .i64 e2]), (w.heap.size + 1, 29, [.bool b3, .slice p3 l3 K3, .int .i64 e3, .bool b4, .slice p4 l4 K4, .int .i64 e4]), (w.heap.size + 1 + 1, 30, [.int .i64 y1, .int .i64 y2, .int .i64 (k : Int)]), (g8, 34, [.bool b21, .slice p21 l21 K21, .slice q21 j21 J21]), (g9, 34, [.bool b22, .slice p22 l22 K22, .slice q22 j22 J22])] ∧ (Hid (negB z21.num = b21) ∧ IsNat wx (.slice p21 l21 K21) z21.num.natAbs ∧ IsNat wx (.slice q21 j21 J21) z21.den) ∧ (Hid (negB z22.num = b22) ∧ IsNat wx (.slice p22 l22 K22) z22.num.natAbs ∧ IsNat wx (.slice q22 j22 J22) z22.den) ∧ Hid (x1 ≤ z21 ∧ z21 ≤ x2 ∧ RB z21 72) ∧ Hid (x3 ≤ z22 ∧ z22 ≤ x4 ∧ RB z22 72) ∧ Hold w2 wx)
    case first =>
      have HH := Hold.drew w2
      refine iv4 HH n1 n2 n3 n4 ?_; clear n1 n2 n3 n4; intro n1 n2 n3 n4
      replace S := S.drew
      refine wp_region_held_drew (S := fun W => W.cell? ⟨w.heap.size, 0, none⟩ = some (.bool b1) ∧ W.cell? ⟨w.heap.size, 1, none⟩ = some (.slice p1 l1 K1) ∧ W.cell? ⟨w.heap.size, 2, none⟩ = some (.int .i64 e1) ∧ W.cell? ⟨w.heap.size, 3, none⟩ = some (.bool b2) ∧ W.cell? ⟨w.heap.size, 4, none⟩ = some (.slice p2 l2 K2) ∧ W.cell? ⟨w.heap.size, 5, none⟩ = some (.int .i64 e2) ∧ W.cell? ⟨w.heap.size + 1, 0, none⟩ = some (.bool b3) ∧ W.cell? ⟨w.heap.size + 1, 1, none⟩ = some (.slice p3 l3 K3) ∧ W.cell? ⟨w.heap.size + 1, 2, none⟩ = some (.int .i64 e3) ∧ W.cell? ⟨w.heap.size + 1, 3, none⟩ = some (.bool b4) ∧ W.cell? ⟨w.heap.size + 1, 4, none⟩ = some (.slice p4 l4 K4) ∧ W.cell? ⟨w.heap.size + 1, 5, none⟩ = some (.int .i64 e4) ∧ W.cell? ⟨w.heap.size + 1 + 1, 0, none⟩ = some (.int .i64 y1) ∧ W.cell? ⟨w.heap.size + 1 + 1, 1, none⟩ = some (.int .i64 y2)) (by kernel_rfl) (con6 (S.c6 0 rfl) (con6 (S.c6 1 rfl) ⟨(S.c 2 0 rfl rfl), (S.c 2 1 rfl rfl)⟩)) (fun hS => ?_)
      generalize w2.drew = w3 at S n1 n2 n3 n4 HH hS ⊢
      refine tk 0 hS ?_
      refine tk 1 hS ?_
      refine tk 2 hS ?_
      refine tk 4 hS ?_
      refine tk 5 hS ?_
      refine tk 6 hS ?_
      refine wpAnyH_ready (rs := [3, 8, 9]) (by kernel_rfl) (by simp) (AllReadyH.cons (opOf rfl) (fun KK hKK => ?_) (AllReadyH.cons (opOf rfl) (fun KK hKK => ?_) (AllReadyH.cons (opOf rfl) (fun KK hKK => ?_) AllReadyH.nil)))
      ·
        go_simp; clear hS
        refine S.cl (sat_any (L := 200) (H := 520) (k := 23) _ ⟨b1, p1, l1, K1, m1, e1, b2, p2, l2, K2, m2, e2, rfl, h1, n1, d1, h2, n2, d2⟩ (by decide) (by decide) (by decide) (by decide) G.out.1) ?_; clear S; rintro e w4 ⟨_, rfl, z21, ⟨b21, p21, l21, K21, q21, j21, J21, rfl, h21, n21, d21⟩, hz21⟩ S H
        refine iv5 H n1 n2 n3 n4 HH ?_; clear n1 n2 n3 n4 HH H; intro n1 n2 n3 n4 HH
        go_wp2_with fail
        refine ho hKK (con6 (S.c6 0 rfl) (con6 (S.c6 1 rfl) ⟨(S.c 2 0 rfl rfl), (S.c 2 1 rfl rfl)⟩)) fun hS => ?_
        clear hKK KK
        refine wpAnyH_ready (rs := [7, 8, 9]) (by kernel_rfl) (by simp) (AllReadyH.cons (opOf rfl) (fun KK hKK => ?_) (AllReadyH.cons (opOf rfl) (fun KK hKK => ?_) (AllReadyH.cons (opOf rfl) (fun KK hKK => ?_) AllReadyH.nil)))
        ·
          go_simp; clear hS
          refine S.cl (sat_any (L := 200) (H := 520) (k := 23) _ ⟨b3, p3, l3, K3, m3, e3, b4, p4, l4, K4, m4, e4, rfl, h3, n3, d3, h4, n4, d4⟩ (by decide) (by decide) (by decide) (by decide) G.out.2) ?_; clear S; rintro e w5 ⟨_, rfl, z22, ⟨b22, p22, l22, K22, q22, j22, J22, rfl, h22, n22, d22⟩, hz22⟩ S H
          refine iv7 H n1 n2 n3 n4 n21 d21 HH ?_; clear n1 n2 n3 n4 n21 d21 HH H; intro n1 n2 n3 n4 n21 d21 HH
          go_wp2_with fail
          refine ho hKK (con6 (S.c6 0 rfl) (con6 (S.c6 1 rfl) ⟨(S.c 2 0 rfl rfl), (S.c 2 1 rfl rfl)⟩)) fun hS => ?_
          clear hKK KK
          refine wpAnyH_ready (rs := [8, 9]) (by kernel_rfl) (by simp) (AllReadyH.cons (opOf rfl) (fun KK hKK => ?_) (AllReadyH.cons (opOf rfl) (fun KK hKK => ?_) AllReadyH.nil))
          ·
            go_simp; clear hS
            have H := S.hnew 34 [.bool false, .slice none 0 0, .slice none 0 0]
            replace S := S.al 34 [.bool false, .slice none 0 0, .slice none 0 0] (w5.heap.size)
            refine iv8 H n1 n2 n3 n4 n21 d21 n22 d22 ?_; clear n1 n2 n3 n4 n21 d21 n22 d22; intro n1 n2 n3 n4 n21 d21 n22 d22; replace HH := HH.trans H; clear H
            refine ho hKK (con6 (S.c6 0 rfl) (con6 (S.c6 1 rfl) ⟨(S.c 2 0 rfl rfl), (S.c 2 1 rfl rfl)⟩)) fun hS => ?_
            generalize (w5.alloc (.cells #[.bool false, .slice none 0 0, .slice none 0 0] 34)) = w6 at S n1 n2 n3 n4 n21 d21 n22 d22 HH hS ⊢
            clear hKK KK
            refine rd 9 fun KK hKK => ?_
            go_simp; clear hS
            have H := S.hnew 34 [.bool false, .slice none 0 0, .slice none 0 0]
            replace S := S.al 34 [.bool false, .slice none 0 0, .slice none 0 0] (w6.heap.size)
            refine iv8 H n1 n2 n3 n4 n21 d21 n22 d22 ?_; clear n1 n2 n3 n4 n21 d21 n22 d22; intro n1 n2 n3 n4 n21 d21 n22 d22; replace HH := HH.trans H; clear H
            refine ho hKK (con6 (S.c6 0 rfl) (con6 (S.c6 1 rfl) ⟨(S.c 2 0 rfl rfl), (S.c 2 1 rfl rfl)⟩)) fun hS => ?_
            generalize (w6.alloc (.cells #[.bool false, .slice none 0 0, .slice none 0 0] 34)) = w7 at S n1 n2 n3 n4 n21 d21 n22 d22 HH hS ⊢
            clear hKK KK
            refine rd 10 fun KK hKK => ?_
            obtain ⟨c0, c1, c2⟩ := S.c3 3 rfl; obtain ⟨f0, f1, f2⟩ := S.f3 3 rfl
            go_simp; clear hS c0 f0 c1 f1 c2 f2
            have HP := S.putq 3 (.bool b21) (.slice p21 l21 K21) (.slice q21 j21 J21) rfl rfl; have H := HP.2; replace S := HP.1; clear HP
            refine iv8 H n1 n2 n3 n4 n21 d21 n22 d22 ?_; clear n1 n2 n3 n4 n21 d21 n22 d22; intro n1 n2 n3 n4 n21 d21 n22 d22; replace HH := HH.trans H; clear H
            refine ho hKK (con6 (S.c6 0 rfl) (con6 (S.c6 1 rfl) ⟨(S.c 2 0 rfl rfl), (S.c 2 1 rfl rfl)⟩)) fun hS => ?_
            generalize (((w7.setCell ⟨w5.heap.size, 0, none⟩ (.bool b21)).setCell ⟨w5.heap.size, 1, none⟩ (.slice p21 l21 K21)).setCell ⟨w5.heap.size, 2, none⟩ (.slice q21 j21 J21)) = w8 at S n1 n2 n3 n4 n21 d21 n22 d22 HH hS ⊢
            clear hKK KK
            refine rd 11 fun KK hKK => ?_
            obtain ⟨c0, c1, c2⟩ := S.c3 4 rfl; obtain ⟨f0, f1, f2⟩ := S.f3 4 rfl
            go_simp; clear hS c0 f0 c1 f1 c2 f2
            have HP := S.putq 4 (.bool b22) (.slice p22 l22 K22) (.slice q22 j22 J22) rfl rfl; have H := HP.2; replace S := HP.1; clear HP
            refine iv8 H n1 n2 n3 n4 n21 d21 n22 d22 ?_; clear n1 n2 n3 n4 n21 d21 n22 d22; intro n1 n2 n3 n4 n21 d21 n22 d22; replace HH := HH.trans H; clear H
            refine ho hKK (con6 (S.c6 0 rfl) (con6 (S.c6 1 rfl) ⟨(S.c 2 0 rfl rfl), (S.c 2 1 rfl rfl)⟩)) fun hS => ?_
            generalize (((w8.setCell ⟨w6.heap.size, 0, none⟩ (.bool b22)).setCell ⟨w6.heap.size, 1, none⟩ (.slice p22 l22 K22)).setCell ⟨w6.heap.size, 2, none⟩ (.slice q22 j22 J22)) = w9 at S n1 n2 n3 n4 n21 d21 n22 d22 HH hS ⊢
            clear hKK KK
            refine wpAnyH_done (by kernel_rfl) ?_ _
            go_wp2_with fail
            go_meet
            case rel => exact ⟨w5.heap.size, w6.heap.size, b21, p21, l21, K21, q21, j21, J21, b22, p22, l22, K22, q22, j22, J22, z21, z22, rfl, rfl, Su.of S [0, 1, 2, 3, 4] rfl, ⟨h21, n21, d21⟩, ⟨h22, n22, d22⟩, hz21, hz22, HH⟩
          ·
            go_simp; clear hS
            have H := S.hnew 34 [.bool false, .slice none 0 0, .slice none 0 0]
            replace S := S.al 34 [.bool false, .slice none 0 0, .slice none 0 0] (w5.heap.size)
            refine iv8 H n1 n2 n3 n4 n21 d21 n22 d22 ?_; clear n1 n2 n3 n4 n21 d21 n22 d22; intro n1 n2 n3 n4 n21 d21 n22 d22; replace HH := HH.trans H; clear H
            refine ho hKK (con6 (S.c6 0 rfl) (con6 (S.c6 1 rfl) ⟨(S.c 2 0 rfl rfl), (S.c 2 1 rfl rfl)⟩)) fun hS => ?_
            generalize (w5.alloc (.cells #[.bool false, .slice none 0 0, .slice none 0 0] 34)) = w10 at S n1 n2 n3 n4 n21 d21 n22 d22 HH hS ⊢
            clear hKK KK
            refine rd 8 fun KK hKK => ?_
            go_simp; clear hS
            have H := S.hnew 34 [.bool false, .slice none 0 0, .slice none 0 0]
            replace S := S.al 34 [.bool false, .slice none 0 0, .slice none 0 0] (w10.heap.size)
            refine iv8 H n1 n2 n3 n4 n21 d21 n22 d22 ?_; clear n1 n2 n3 n4 n21 d21 n22 d22; intro n1 n2 n3 n4 n21 d21 n22 d22; replace HH := HH.trans H; clear H
            refine ho hKK (con6 (S.c6 0 rfl) (con6 (S.c6 1 rfl) ⟨(S.c 2 0 rfl rfl), (S.c 2 1 rfl rfl)⟩)) fun hS => ?_
            generalize (w10.alloc (.cells #[.bool false, .slice none 0 0, .slice none 0 0] 34)) = w11 at S n1 n2 n3 n4 n21 d21 n22 d22 HH hS ⊢
            clear hKK KK
            refine rd 10 fun KK hKK => ?_
            obtain ⟨c0, c1, c2⟩ := S.c3 4 rfl; obtain ⟨f0, f1, f2⟩ := S.f3 4 rfl
            go_simp; clear hS c0 f0 c1 f1 c2 f2
            have HP := S.putq 4 (.bool b21) (.slice p21 l21 K21) (.slice q21 j21 J21) rfl rfl; have H := HP.2; replace S := HP.1; clear HP
            refine iv8 H n1 n2 n3 n4 n21 d21 n22 d22 ?_; clear n1 n2 n3 n4 n21 d21 n22 d22; intro n1 n2 n3 n4 n21 d21 n22 d22; replace HH := HH.trans H; clear H
            refine ho hKK (con6 (S.c6 0 rfl) (con6 (S.c6 1 rfl) ⟨(S.c 2 0 rfl rfl), (S.c 2 1 rfl rfl)⟩)) fun hS => ?_
            generalize (((w11.setCell ⟨w10.heap.size, 0, none⟩ (.bool b21)).setCell ⟨w10.heap.size, 1, none⟩ (.slice p21 l21 K21)).setCell ⟨w10.heap.size, 2, none⟩ (.slice q21 j21 J21)) = w12 at S n1 n2 n3 n4 n21 d21 n22 d22 HH hS ⊢
            clear hKK KK
            refine rd 11 fun KK hKK => ?_
            obtain ⟨c0, c1, c2⟩ := S.c3 3 rfl; obtain ⟨f0, f1, f2⟩ := S.f3 3 rfl
            go_simp; clear hS c0 f0 c1 f1 c2 f2
            have HP := S.putq 3 (.bool b22) (.slice p22 l22 K22) (.slice q22 j22 J22) rfl rfl; have H := HP.2; replace S := HP.1; clear HP
            refine iv8 H n1 n2 n3 n4 n21 d21 n22 d22 ?_; clear n1 n2 n3 n4 n21 d21 n22 d22; intro n1 n2 n3 n4 n21 d21 n22 d22; replace HH := HH.trans H; clear H
            refine ho hKK (con6 (S.c6 0 rfl) (con6 (S.c6 1 rfl) ⟨(S.c 2 0 rfl rfl), (S.c 2 1 rfl rfl)⟩)) fun hS => ?_
            generalize (((w12.setCell ⟨w5.heap.size, 0, none⟩ (.bool b22)).setCell ⟨w5.heap.size, 1, none⟩ (.slice p22 l22 K22)).setCell ⟨w5.heap.size, 2, none⟩ (.slice q22 j22 J22)) = w13 at S n1 n2 n3 n4 n21 d21 n22 d22 HH hS ⊢
            clear hKK KK
            refine wpAnyH_done (by kernel_rfl) ?_ _
            go_wp2_with fail
            go_meet
            case rel => exact ⟨w10.heap.size, w5.heap.size, b21, p21, l21, K21, q21, j21, J21, b22, p22, l22, K22, q22, j22, J22, z21, z22, rfl, rfl, Su.of S [0, 1, 2, 4, 3] rfl, ⟨h21, n21, d21⟩, ⟨h22, n22, d22⟩, hz21, hz22, HH⟩
        ·
          go_simp; clear hS
          have H := S.hnew 34 [.bool false, .slice none 0 0, .slice none 0 0]
          replace S := S.al 34 [.bool false, .slice none 0 0, .slice none 0 0] (w4.heap.size)
          refine iv7 H n1 n2 n3 n4 n21 d21 HH ?_; clear n1 n2 n3 n4 n21 d21 HH H; intro n1 n2 n3 n4 n21 d21 HH
          refine ho hKK (con6 (S.c6 0 rfl) (con6 (S.c6 1 rfl) ⟨(S.c 2 0 rfl rfl), (S.c 2 1 rfl rfl)⟩)) fun hS => ?_
          generalize (w4.alloc (.cells #[.bool false, .slice none 0 0, .slice none 0 0] 34)) = w14 at S n1 n2 n3 n4 n21 d21 HH hS ⊢
          clear hKK KK
          refine wpAnyH_ready (rs := [7, 9]) (by kernel_rfl) (by simp) (AllReadyH.cons (opOf rfl) (fun KK hKK => ?_) (AllReadyH.cons (opOf rfl) (fun KK hKK => ?_) AllReadyH.nil))
          ·
            go_simp; clear hS
            refine S.cl (sat_any (L := 200) (H := 520) (k := 23) _ ⟨b3, p3, l3, K3, m3, e3, b4, p4, l4, K4, m4, e4, rfl, h3, n3, d3, h4, n4, d4⟩ (by decide) (by decide) (by decide) (by decide) G.out.2) ?_; clear S; rintro e w15 ⟨_, rfl, z22, ⟨b22, p22, l22, K22, q22, j22, J22, rfl, h22, n22, d22⟩, hz22⟩ S H
            refine iv7 H n1 n2 n3 n4 n21 d21 HH ?_; clear n1 n2 n3 n4 n21 d21 HH H; intro n1 n2 n3 n4 n21 d21 HH
            go_wp2_with fail
            refine ho hKK (con6 (S.c6 0 rfl) (con6 (S.c6 1 rfl) ⟨(S.c 2 0 rfl rfl), (S.c 2 1 rfl rfl)⟩)) fun hS => ?_
            clear hKK KK
            refine rd 9 fun KK hKK => ?_
            go_simp; clear hS
            have H := S.hnew 34 [.bool false, .slice none 0 0, .slice none 0 0]
            replace S := S.al 34 [.bool false, .slice none 0 0, .slice none 0 0] (w15.heap.size)
            refine iv8 H n1 n2 n3 n4 n21 d21 n22 d22 ?_; clear n1 n2 n3 n4 n21 d21 n22 d22; intro n1 n2 n3 n4 n21 d21 n22 d22; replace HH := HH.trans H; clear H
            refine ho hKK (con6 (S.c6 0 rfl) (con6 (S.c6 1 rfl) ⟨(S.c 2 0 rfl rfl), (S.c 2 1 rfl rfl)⟩)) fun hS => ?_
            generalize (w15.alloc (.cells #[.bool false, .slice none 0 0, .slice none 0 0] 34)) = w16 at S n1 n2 n3 n4 n21 d21 n22 d22 HH hS ⊢
            clear hKK KK
            refine rd 10 fun KK hKK => ?_
            obtain ⟨c0, c1, c2⟩ := S.c3 3 rfl; obtain ⟨f0, f1, f2⟩ := S.f3 3 rfl
            go_simp; clear hS c0 f0 c1 f1 c2 f2
            have HP := S.putq 3 (.bool b21) (.slice p21 l21 K21) (.slice q21 j21 J21) rfl rfl; have H := HP.2; replace S := HP.1; clear HP
            refine iv8 H n1 n2 n3 n4 n21 d21 n22 d22 ?_; clear n1 n2 n3 n4 n21 d21 n22 d22; intro n1 n2 n3 n4 n21 d21 n22 d22; replace HH := HH.trans H; clear H
            refine ho hKK (con6 (S.c6 0 rfl) (con6 (S.c6 1 rfl) ⟨(S.c 2 0 rfl rfl), (S.c 2 1 rfl rfl)⟩)) fun hS => ?_
            generalize (((w16.setCell ⟨w4.heap.size, 0, none⟩ (.bool b21)).setCell ⟨w4.heap.size, 1, none⟩ (.slice p21 l21 K21)).setCell ⟨w4.heap.size, 2, none⟩ (.slice q21 j21 J21)) = w17 at S n1 n2 n3 n4 n21 d21 n22 d22 HH hS ⊢
            clear hKK KK
            refine rd 11 fun KK hKK => ?_
            obtain ⟨c0, c1, c2⟩ := S.c3 4 rfl; obtain ⟨f0, f1, f2⟩ := S.f3 4 rfl
            go_simp; clear hS c0 f0 c1 f1 c2 f2
            have HP := S.putq 4 (.bool b22) (.slice p22 l22 K22) (.slice q22 j22 J22) rfl rfl; have H := HP.2; replace S := HP.1; clear HP
            refine iv8 H n1 n2 n3 n4 n21 d21 n22 d22 ?_; clear n1 n2 n3 n4 n21 d21 n22 d22; intro n1 n2 n3 n4 n21 d21 n22 d22; replace HH := HH.trans H; clear H
            refine ho hKK (con6 (S.c6 0 rfl) (con6 (S.c6 1 rfl) ⟨(S.c 2 0 rfl rfl), (S.c 2 1 rfl rfl)⟩)) fun hS => ?_
            generalize (((w17.setCell ⟨w15.heap.size, 0, none⟩ (.bool b22)).setCell ⟨w15.heap.size, 1, none⟩ (.slice p22 l22 K22)).setCell ⟨w15.heap.size, 2, none⟩ (.slice q22 j22 J22)) = w18 at S n1 n2 n3 n4 n21 d21 n22 d22 HH hS ⊢
            clear hKK KK
            refine wpAnyH_done (by kernel_rfl) ?_ _
            go_wp2_with fail
            go_meet
            case rel => exact ⟨w4.heap.size, w15.heap.size, b21, p21, l21, K21, q21, j21, J21, b22, p22, l22, K22, q22, j22, J22, z21, z22, rfl, rfl, Su.of S [0, 1, 2, 3, 4] rfl, ⟨h21, n21, d21⟩, ⟨h22, n22, d22⟩, hz21, hz22, HH⟩
          ·
            go_simp; clear hS
            have H := S.hnew 34 [.bool false, .slice none 0 0, .slice none 0 0]
            replace S := S.al 34 [.bool false, .slice none 0 0, .slice none 0 0] (w14.heap.size)
            refine iv7 H n1 n2 n3 n4 n21 d21 HH ?_; clear n1 n2 n3 n4 n21 d21 HH H; intro n1 n2 n3 n4 n21 d21 HH
            refine ho hKK (con6 (S.c6 0 rfl) (con6 (S.c6 1 rfl) ⟨(S.c 2 0 rfl rfl), (S.c 2 1 rfl rfl)⟩)) fun hS => ?_
            generalize (w14.alloc (.cells #[.bool false, .slice none 0 0, .slice none 0 0] 34)) = w19 at S n1 n2 n3 n4 n21 d21 HH hS ⊢
            clear hKK KK
            refine rd 7 fun KK hKK => ?_
            go_simp; clear hS
            refine S.cl (sat_any (L := 200) (H := 520) (k := 23) _ ⟨b3, p3, l3, K3, m3, e3, b4, p4, l4, K4, m4, e4, rfl, h3, n3, d3, h4, n4, d4⟩ (by decide) (by decide) (by decide) (by decide) G.out.2) ?_; clear S; rintro e w20 ⟨_, rfl, z22, ⟨b22, p22, l22, K22, q22, j22, J22, rfl, h22, n22, d22⟩, hz22⟩ S H
            refine iv7 H n1 n2 n3 n4 n21 d21 HH ?_; clear n1 n2 n3 n4 n21 d21 HH H; intro n1 n2 n3 n4 n21 d21 HH
            go_wp2_with fail
            refine ho hKK (con6 (S.c6 0 rfl) (con6 (S.c6 1 rfl) ⟨(S.c 2 0 rfl rfl), (S.c 2 1 rfl rfl)⟩)) fun hS => ?_
            clear hKK KK
            refine rd 10 fun KK hKK => ?_
            obtain ⟨c0, c1, c2⟩ := S.c3 3 rfl; obtain ⟨f0, f1, f2⟩ := S.f3 3 rfl
            go_simp; clear hS c0 f0 c1 f1 c2 f2
            have HP := S.putq 3 (.bool b21) (.slice p21 l21 K21) (.slice q21 j21 J21) rfl rfl; have H := HP.2; replace S := HP.1; clear HP
            refine iv8 H n1 n2 n3 n4 n21 d21 n22 d22 ?_; clear n1 n2 n3 n4 n21 d21 n22 d22; intro n1 n2 n3 n4 n21 d21 n22 d22; replace HH := HH.trans H; clear H
            refine ho hKK (con6 (S.c6 0 rfl) (con6 (S.c6 1 rfl) ⟨(S.c 2 0 rfl rfl), (S.c 2 1 rfl rfl)⟩)) fun hS => ?_
            generalize (((w20.setCell ⟨w4.heap.size, 0, none⟩ (.bool b21)).setCell ⟨w4.heap.size, 1, none⟩ (.slice p21 l21 K21)).setCell ⟨w4.heap.size, 2, none⟩ (.slice q21 j21 J21)) = w21 at S n1 n2 n3 n4 n21 d21 n22 d22 HH hS ⊢
            clear hKK KK
            refine rd 11 fun KK hKK => ?_
            obtain ⟨c0, c1, c2⟩ := S.c3 4 rfl; obtain ⟨f0, f1, f2⟩ := S.f3 4 rfl
            go_simp; clear hS c0 f0 c1 f1 c2 f2
            have HP := S.putq 4 (.bool b22) (.slice p22 l22 K22) (.slice q22 j22 J22) rfl rfl; have H := HP.2; replace S := HP.1; clear HP
            refine iv8 H n1 n2 n3 n4 n21 d21 n22 d22 ?_; clear n1 n2 n3 n4 n21 d21 n22 d22; intro n1 n2 n3 n4 n21 d21 n22 d22; replace HH := HH.trans H; clear H
            refine ho hKK (con6 (S.c6 0 rfl) (con6 (S.c6 1 rfl) ⟨(S.c 2 0 rfl rfl), (S.c 2 1 rfl rfl)⟩)) fun hS => ?_
            generalize (((w21.setCell ⟨w14.heap.size, 0, none⟩ (.bool b22)).setCell ⟨w14.heap.size, 1, none⟩ (.slice p22 l22 K22)).setCell ⟨w14.heap.size, 2, none⟩ (.slice q22 j22 J22)) = w22 at S n1 n2 n3 n4 n21 d21 n22 d22 HH hS ⊢
            clear hKK KK
            refine wpAnyH_done (by kernel_rfl) ?_ _
            go_wp2_with fail
            go_meet
            case rel => exact ⟨w4.heap.size, w14.heap.size, b21, p21, l21, K21, q21, j21, J21, b22, p22, l22, K22, q22, j22, J22, z21, z22, rfl, rfl, Su.of S [0, 1, 2, 3, 4] rfl, ⟨h21, n21, d21⟩, ⟨h22, n22, d22⟩, hz21, hz22, HH⟩
        ·
          go_simp; clear hS
          have H := S.hnew 34 [.bool false, .slice none 0 0, .slice none 0 0]
          replace S := S.al 34 [.bool false, .slice none 0 0, .slice none 0 0] (w4.heap.size)
          refine iv7 H n1 n2 n3 n4 n21 d21 HH ?_; clear n1 n2 n3 n4 n21 d21 HH H; intro n1 n2 n3 n4 n21 d21 HH
          refine ho hKK (con6 (S.c6 0 rfl) (con6 (S.c6 1 rfl) ⟨(S.c 2 0 rfl rfl), (S.c 2 1 rfl rfl)⟩)) fun hS => ?_
          generalize (w4.alloc (.cells #[.bool false, .slice none 0 0, .slice none 0 0] 34)) = w23 at S n1 n2 n3 n4 n21 d21 HH hS ⊢
          clear hKK KK
          refine wpAnyH_ready (rs := [7, 8]) (by kernel_rfl) (by simp) (AllReadyH.cons (opOf rfl) (fun KK hKK => ?_) (AllReadyH.cons (opOf rfl) (fun KK hKK => ?_) AllReadyH.nil))
          ·
            go_simp; clear hS
            refine S.cl (sat_any (L := 200) (H := 520) (k := 23) _ ⟨b3, p3, l3, K3, m3, e3, b4, p4, l4, K4, m4, e4, rfl, h3, n3, d3, h4, n4, d4⟩ (by decide) (by decide) (by decide) (by decide) G.out.2) ?_; clear S; rintro e w24 ⟨_, rfl, z22, ⟨b22, p22, l22, K22, q22, j22, J22, rfl, h22, n22, d22⟩, hz22⟩ S H
            refine iv7 H n1 n2 n3 n4 n21 d21 HH ?_; clear n1 n2 n3 n4 n21 d21 HH H; intro n1 n2 n3 n4 n21 d21 HH
            go_wp2_with fail
            refine ho hKK (con6 (S.c6 0 rfl) (con6 (S.c6 1 rfl) ⟨(S.c 2 0 rfl rfl), (S.c 2 1 rfl rfl)⟩)) fun hS => ?_
            clear hKK KK
            refine rd 8 fun KK hKK => ?_
            go_simp; clear hS
            have H := S.hnew 34 [.bool false, .slice none 0 0, .slice none 0 0]
            replace S := S.al 34 [.bool false, .slice none 0 0, .slice none 0 0] (w24.heap.size)
            refine iv8 H n1 n2 n3 n4 n21 d21 n22 d22 ?_; clear n1 n2 n3 n4 n21 d21 n22 d22; intro n1 n2 n3 n4 n21 d21 n22 d22; replace HH := HH.trans H; clear H
            refine ho hKK (con6 (S.c6 0 rfl) (con6 (S.c6 1 rfl) ⟨(S.c 2 0 rfl rfl), (S.c 2 1 rfl rfl)⟩)) fun hS => ?_
            generalize (w24.alloc (.cells #[.bool false, .slice none 0 0, .slice none 0 0] 34)) = w25 at S n1 n2 n3 n4 n21 d21 n22 d22 HH hS ⊢
            clear hKK KK
            refine rd 10 fun KK hKK => ?_
            obtain ⟨c0, c1, c2⟩ := S.c3 4 rfl; obtain ⟨f0, f1, f2⟩ := S.f3 4 rfl
            go_simp; clear hS c0 f0 c1 f1 c2 f2
            have HP := S.putq 4 (.bool b21) (.slice p21 l21 K21) (.slice q21 j21 J21) rfl rfl; have H := HP.2; replace S := HP.1; clear HP
            refine iv8 H n1 n2 n3 n4 n21 d21 n22 d22 ?_; clear n1 n2 n3 n4 n21 d21 n22 d22; intro n1 n2 n3 n4 n21 d21 n22 d22; replace HH := HH.trans H; clear H
            refine ho hKK (con6 (S.c6 0 rfl) (con6 (S.c6 1 rfl) ⟨(S.c 2 0 rfl rfl), (S.c 2 1 rfl rfl)⟩)) fun hS => ?_
            generalize (((w25.setCell ⟨w24.heap.size, 0, none⟩ (.bool b21)).setCell ⟨w24.heap.size, 1, none⟩ (.slice p21 l21 K21)).setCell ⟨w24.heap.size, 2, none⟩ (.slice q21 j21 J21)) = w26 at S n1 n2 n3 n4 n21 d21 n22 d22 HH hS ⊢
            clear hKK KK
            refine rd 11 fun KK hKK => ?_
            obtain ⟨c0, c1, c2⟩ := S.c3 3 rfl; obtain ⟨f0, f1, f2⟩ := S.f3 3 rfl
            go_simp; clear hS c0 f0 c1 f1 c2 f2
            have HP := S.putq 3 (.bool b22) (.slice p22 l22 K22) (.slice q22 j22 J22) rfl rfl; have H := HP.2; replace S := HP.1; clear HP
            refine iv8 H n1 n2 n3 n4 n21 d21 n22 d22 ?_; clear n1 n2 n3 n4 n21 d21 n22 d22; intro n1 n2 n3 n4 n21 d21 n22 d22; replace HH := HH.trans H; clear H
            refine ho hKK (con6 (S.c6 0 rfl) (con6 (S.c6 1 rfl) ⟨(S.c 2 0 rfl rfl), (S.c 2 1 rfl rfl)⟩)) fun hS => ?_
            generalize (((w26.setCell ⟨w4.heap.size, 0, none⟩ (.bool b22)).setCell ⟨w4.heap.size, 1, none⟩ (.slice p22 l22 K22)).setCell ⟨w4.heap.size, 2, none⟩ (.slice q22 j22 J22)) = w27 at S n1 n2 n3 n4 n21 d21 n22 d22 HH hS ⊢
            clear hKK KK
            refine wpAnyH_done (by kernel_rfl) ?_ _
            go_wp2_with fail
            go_meet
            case rel => exact ⟨w24.heap.size, w4.heap.size, b21, p21, l21, K21, q21, j21, J21, b22, p22, l22, K22, q22, j22, J22, z21, z22, rfl, rfl, Su.of S [0, 1, 2, 4, 3] rfl, ⟨h21, n21, d21⟩, ⟨h22, n22, d22⟩, hz21, hz22, HH⟩
          ·
            go_simp; clear hS
            have H := S.hnew 34 [.bool false, .slice none 0 0, .slice none 0 0]
            replace S := S.al 34 [.bool false, .slice none 0 0, .slice none 0 0] (w23.heap.size)
            refine iv7 H n1 n2 n3 n4 n21 d21 HH ?_; clear n1 n2 n3 n4 n21 d21 HH H; intro n1 n2 n3 n4 n21 d21 HH
            refine ho hKK (con6 (S.c6 0 rfl) (con6 (S.c6 1 rfl) ⟨(S.c 2 0 rfl rfl), (S.c 2 1 rfl rfl)⟩)) fun hS => ?_
            generalize (w23.alloc (.cells #[.bool false, .slice none 0 0, .slice none 0 0] 34)) = w28 at S n1 n2 n3 n4 n21 d21 HH hS ⊢
            clear hKK KK
            refine rd 7 fun KK hKK => ?_
            go_simp; clear hS
            refine S.cl (sat_any (L := 200) (H := 520) (k := 23) _ ⟨b3, p3, l3, K3, m3, e3, b4, p4, l4, K4, m4, e4, rfl, h3, n3, d3, h4, n4, d4⟩ (by decide) (by decide) (by decide) (by decide) G.out.2) ?_; clear S; rintro e w29 ⟨_, rfl, z22, ⟨b22, p22, l22, K22, q22, j22, J22, rfl, h22, n22, d22⟩, hz22⟩ S H
            refine iv7 H n1 n2 n3 n4 n21 d21 HH ?_; clear n1 n2 n3 n4 n21 d21 HH H; intro n1 n2 n3 n4 n21 d21 HH
            go_wp2_with fail
            refine ho hKK (con6 (S.c6 0 rfl) (con6 (S.c6 1 rfl) ⟨(S.c 2 0 rfl rfl), (S.c 2 1 rfl rfl)⟩)) fun hS => ?_
            clear hKK KK
            refine rd 10 fun KK hKK => ?_
            obtain ⟨c0, c1, c2⟩ := S.c3 4 rfl; obtain ⟨f0, f1, f2⟩ := S.f3 4 rfl
            go_simp; clear hS c0 f0 c1 f1 c2 f2
            have HP := S.putq 4 (.bool b21) (.slice p21 l21 K21) (.slice q21 j21 J21) rfl rfl; have H := HP.2; replace S := HP.1; clear HP
            refine iv8 H n1 n2 n3 n4 n21 d21 n22 d22 ?_; clear n1 n2 n3 n4 n21 d21 n22 d22; intro n1 n2 n3 n4 n21 d21 n22 d22; replace HH := HH.trans H; clear H
            refine ho hKK (con6 (S.c6 0 rfl) (con6 (S.c6 1 rfl) ⟨(S.c 2 0 rfl rfl), (S.c 2 1 rfl rfl)⟩)) fun hS => ?_
            generalize (((w29.setCell ⟨w23.heap.size, 0, none⟩ (.bool b21)).setCell ⟨w23.heap.size, 1, none⟩ (.slice p21 l21 K21)).setCell ⟨w23.heap.size, 2, none⟩ (.slice q21 j21 J21)) = w30 at S n1 n2 n3 n4 n21 d21 n22 d22 HH hS ⊢
            clear hKK KK
            refine rd 11 fun KK hKK => ?_
            obtain ⟨c0, c1, c2⟩ := S.c3 3 rfl; obtain ⟨f0, f1, f2⟩ := S.f3 3 rfl
            go_simp; clear hS c0 f0 c1 f1 c2 f2
            have HP := S.putq 3 (.bool b22) (.slice p22 l22 K22) (.slice q22 j22 J22) rfl rfl; have H := HP.2; replace S := HP.1; clear HP
            refine iv8 H n1 n2 n3 n4 n21 d21 n22 d22 ?_; clear n1 n2 n3 n4 n21 d21 n22 d22; intro n1 n2 n3 n4 n21 d21 n22 d22; replace HH := HH.trans H; clear H
            refine ho hKK (con6 (S.c6 0 rfl) (con6 (S.c6 1 rfl) ⟨(S.c 2 0 rfl rfl), (S.c 2 1 rfl rfl)⟩)) fun hS => ?_
            generalize (((w30.setCell ⟨w4.heap.size, 0, none⟩ (.bool b22)).setCell ⟨w4.heap.size, 1, none⟩ (.slice p22 l22 K22)).setCell ⟨w4.heap.size, 2, none⟩ (.slice q22 j22 J22)) = w31 at S n1 n2 n3 n4 n21 d21 n22 d22 HH hS ⊢
            clear hKK KK
            refine wpAnyH_done (by kernel_rfl) ?_ _
            go_wp2_with fail
            go_meet
            case rel => exact ⟨w23.heap.size, w4.heap.size, b21, p21, l21, K21, q21, j21, J21, b22, p22, l22, K22, q22, j22, J22, z21, z22, rfl, rfl, Su.of S [0, 1, 2, 4, 3] rfl, ⟨h21, n21, d21⟩, ⟨h22, n22, d22⟩, hz21, hz22, HH⟩
      ·
        go_simp; clear hS
        have H := S.hnew 34 [.bool false, .slice none 0 0, .slice none 0 0]
        replace S := S.al 34 [.bool false, .slice none 0 0, .slice none 0 0] (w3.heap.size)
        refine iv5 H n1 n2 n3 n4 HH ?_; clear n1 n2 n3 n4 HH H; intro n1 n2 n3 n4 HH
        refine ho hKK (con6 (S.c6 0 rfl) (con6 (S.c6 1 rfl) ⟨(S.c 2 0 rfl rfl), (S.c 2 1 rfl rfl)⟩)) fun hS => ?_
        generalize (w3.alloc (.cells #[.bool false, .slice none 0 0, .slice none 0 0] 34)) = w32 at S n1 n2 n3 n4 HH hS ⊢
        clear hKK KK
        refine wpAnyH_ready (rs := [3, 9]) (by kernel_rfl) (by simp) (AllReadyH.cons (opOf rfl) (fun KK hKK => ?_) (AllReadyH.cons (opOf rfl) (fun KK hKK => ?_) AllReadyH.nil))
        ·
          go_simp; clear hS
          refine S.cl (sat_any (L := 200) (H := 520) (k := 23) _ ⟨b1, p1, l1, K1, m1, e1, b2, p2, l2, K2, m2, e2, rfl, h1, n1, d1, h2, n2, d2⟩ (by decide) (by decide) (by decide) (by decide) G.out.1) ?_; clear S; rintro e w33 ⟨_, rfl, z21, ⟨b21, p21, l21, K21, q21, j21, J21, rfl, h21, n21, d21⟩, hz21⟩ S H
          refine iv5 H n1 n2 n3 n4 HH ?_; clear n1 n2 n3 n4 HH H; intro n1 n2 n3 n4 HH
          go_wp2_with fail
          refine ho hKK (con6 (S.c6 0 rfl) (con6 (S.c6 1 rfl) ⟨(S.c 2 0 rfl rfl), (S.c 2 1 rfl rfl)⟩)) fun hS => ?_
          clear hKK KK
          refine wpAnyH_ready (rs := [7, 9]) (by kernel_rfl) (by simp) (AllReadyH.cons (opOf rfl) (fun KK hKK => ?_) (AllReadyH.cons (opOf rfl) (fun KK hKK => ?_) AllReadyH.nil))
          ·
            go_simp; clear hS
            refine S.cl (sat_any (L := 200) (H := 520) (k := 23) _ ⟨b3, p3, l3, K3, m3, e3, b4, p4, l4, K4, m4, e4, rfl, h3, n3, d3, h4, n4, d4⟩ (by decide) (by decide) (by decide) (by decide) G.out.2) ?_; clear S; rintro e w34 ⟨_, rfl, z22, ⟨b22, p22, l22, K22, q22, j22, J22, rfl, h22, n22, d22⟩, hz22⟩ S H
            refine iv7 H n1 n2 n3 n4 n21 d21 HH ?_; clear n1 n2 n3 n4 n21 d21 HH H; intro n1 n2 n3 n4 n21 d21 HH
            go_wp2_with fail
            refine ho hKK (con6 (S.c6 0 rfl) (con6 (S.c6 1 rfl) ⟨(S.c 2 0 rfl rfl), (S.c 2 1 rfl rfl)⟩)) fun hS => ?_
            clear hKK KK
            refine rd 9 fun KK hKK => ?_
            go_simp; clear hS
            have H := S.hnew 34 [.bool false, .slice none 0 0, .slice none 0 0]
            replace S := S.al 34 [.bool false, .slice none 0 0, .slice none 0 0] (w34.heap.size)
            refine iv8 H n1 n2 n3 n4 n21 d21 n22 d22 ?_; clear n1 n2 n3 n4 n21 d21 n22 d22; intro n1 n2 n3 n4 n21 d21 n22 d22; replace HH := HH.trans H; clear H
            refine ho hKK (con6 (S.c6 0 rfl) (con6 (S.c6 1 rfl) ⟨(S.c 2 0 rfl rfl), (S.c 2 1 rfl rfl)⟩)) fun hS => ?_
            generalize (w34.alloc (.cells #[.bool false, .slice none 0 0, .slice none 0 0] 34)) = w35 at S n1 n2 n3 n4 n21 d21 n22 d22 HH hS ⊢
            clear hKK KK
            refine rd 10 fun KK hKK => ?_
            obtain ⟨c0, c1, c2⟩ := S.c3 3 rfl; obtain ⟨f0, f1, f2⟩ := S.f3 3 rfl
            go_simp; clear hS c0 f0 c1 f1 c2 f2
            have HP := S.putq 3 (.bool b21) (.slice p21 l21 K21) (.slice q21 j21 J21) rfl rfl; have H := HP.2; replace S := HP.1; clear HP
            refine iv8 H n1 n2 n3 n4 n21 d21 n22 d22 ?_; clear n1 n2 n3 n4 n21 d21 n22 d22; intro n1 n2 n3 n4 n21 d21 n22 d22; replace HH := HH.trans H; clear H
            refine ho hKK (con6 (S.c6 0 rfl) (con6 (S.c6 1 rfl) ⟨(S.c 2 0 rfl rfl), (S.c 2 1 rfl rfl)⟩)) fun hS => ?_
            generalize (((w35.setCell ⟨w3.heap.size, 0, none⟩ (.bool b21)).setCell ⟨w3.heap.size, 1, none⟩ (.slice p21 l21 K21)).setCell ⟨w3.heap.size, 2, none⟩ (.slice q21 j21 J21)) = w36 at S n1 n2 n3 n4 n21 d21 n22 d22 HH hS ⊢
            clear hKK KK
            refine rd 11 fun KK hKK => ?_
            obtain ⟨c0, c1, c2⟩ := S.c3 4 rfl; obtain ⟨f0, f1, f2⟩ := S.f3 4 rfl
            go_simp; clear hS c0 f0 c1 f1 c2 f2
            have HP := S.putq 4 (.bool b22) (.slice p22 l22 K22) (.slice q22 j22 J22) rfl rfl; have H := HP.2; replace S := HP.1; clear HP
            refine iv8 H n1 n2 n3 n4 n21 d21 n22 d22 ?_; clear n1 n2 n3 n4 n21 d21 n22 d22; intro n1 n2 n3 n4 n21 d21 n22 d22; replace HH := HH.trans H; clear H
            refine ho hKK (con6 (S.c6 0 rfl) (con6 (S.c6 1 rfl) ⟨(S.c 2 0 rfl rfl), (S.c 2 1 rfl rfl)⟩)) fun hS => ?_
            generalize (((w36.setCell ⟨w34.heap.size, 0, none⟩ (.bool b22)).setCell ⟨w34.heap.size, 1, none⟩ (.slice p22 l22 K22)).setCell ⟨w34.heap.size, 2, none⟩ (.slice q22 j22 J22)) = w37 at S n1 n2 n3 n4 n21 d21 n22 d22 HH hS ⊢
            clear hKK KK
            refine wpAnyH_done (by kernel_rfl) ?_ _
            go_wp2_with fail
            go_meet
            case rel => exact ⟨w3.heap.size, w34.heap.size, b21, p21, l21, K21, q21, j21, J21, b22, p22, l22, K22, q22, j22, J22, z21, z22, rfl, rfl, Su.of S [0, 1, 2, 3, 4] rfl, ⟨h21, n21, d21⟩, ⟨h22, n22, d22⟩, hz21, hz22, HH⟩
          ·
            go_simp; clear hS
            have H := S.hnew 34 [.bool false, .slice none 0 0, .slice none 0 0]
            replace S := S.al 34 [.bool false, .slice none 0 0, .slice none 0 0] (w33.heap.size)
            refine iv7 H n1 n2 n3 n4 n21 d21 HH ?_; clear n1 n2 n3 n4 n21 d21 HH H; intro n1 n2 n3 n4 n21 d21 HH
            refine ho hKK (con6 (S.c6 0 rfl) (con6 (S.c6 1 rfl) ⟨(S.c 2 0 rfl rfl), (S.c 2 1 rfl rfl)⟩)) fun hS => ?_
            generalize (w33.alloc (.cells #[.bool false, .slice none 0 0, .slice none 0 0] 34)) = w38 at S n1 n2 n3 n4 n21 d21 HH hS ⊢
            clear hKK KK
            refine rd 7 fun KK hKK => ?_
            go_simp; clear hS
            refine S.cl (sat_any (L := 200) (H := 520) (k := 23) _ ⟨b3, p3, l3, K3, m3, e3, b4, p4, l4, K4, m4, e4, rfl, h3, n3, d3, h4, n4, d4⟩ (by decide) (by decide) (by decide) (by decide) G.out.2) ?_; clear S; rintro e w39 ⟨_, rfl, z22, ⟨b22, p22, l22, K22, q22, j22, J22, rfl, h22, n22, d22⟩, hz22⟩ S H
            refine iv7 H n1 n2 n3 n4 n21 d21 HH ?_; clear n1 n2 n3 n4 n21 d21 HH H; intro n1 n2 n3 n4 n21 d21 HH
            go_wp2_with fail
            refine ho hKK (con6 (S.c6 0 rfl) (con6 (S.c6 1 rfl) ⟨(S.c 2 0 rfl rfl), (S.c 2 1 rfl rfl)⟩)) fun hS => ?_
            clear hKK KK
            refine rd 10 fun KK hKK => ?_
            obtain ⟨c0, c1, c2⟩ := S.c3 3 rfl; obtain ⟨f0, f1, f2⟩ := S.f3 3 rfl
            go_simp; clear hS c0 f0 c1 f1 c2 f2
            have HP := S.putq 3 (.bool b21) (.slice p21 l21 K21) (.slice q21 j21 J21) rfl rfl; have H := HP.2; replace S := HP.1; clear HP
            refine iv8 H n1 n2 n3 n4 n21 d21 n22 d22 ?_; clear n1 n2 n3 n4 n21 d21 n22 d22; intro n1 n2 n3 n4 n21 d21 n22 d22; replace HH := HH.trans H; clear H
            refine ho hKK (con6 (S.c6 0 rfl) (con6 (S.c6 1 rfl) ⟨(S.c 2 0 rfl rfl), (S.c 2 1 rfl rfl)⟩)) fun hS => ?_
            generalize (((w39.setCell ⟨w3.heap.size, 0, none⟩ (.bool b21)).setCell ⟨w3.heap.size, 1, none⟩ (.slice p21 l21 K21)).setCell ⟨w3.heap.size, 2, none⟩ (.slice q21 j21 J21)) = w40 at S n1 n2 n3 n4 n21 d21 n22 d22 HH hS ⊢
            clear hKK KK
            refine rd 11 fun KK hKK => ?_
            obtain ⟨c0, c1, c2⟩ := S.c3 4 rfl; obtain ⟨f0, f1, f2⟩ := S.f3 4 rfl
            go_simp; clear hS c0 f0 c1 f1 c2 f2
            have HP := S.putq 4 (.bool b22) (.slice p22 l22 K22) (.slice q22 j22 J22) rfl rfl; have H := HP.2; replace S := HP.1; clear HP
            refine iv8 H n1 n2 n3 n4 n21 d21 n22 d22 ?_; clear n1 n2 n3 n4 n21 d21 n22 d22; intro n1 n2 n3 n4 n21 d21 n22 d22; replace HH := HH.trans H; clear H
            refine ho hKK (con6 (S.c6 0 rfl) (con6 (S.c6 1 rfl) ⟨(S.c 2 0 rfl rfl), (S.c 2 1 rfl rfl)⟩)) fun hS => ?_
            generalize (((w40.setCell ⟨w33.heap.size, 0, none⟩ (.bool b22)).setCell ⟨w33.heap.size, 1, none⟩ (.slice p22 l22 K22)).setCell ⟨w33.heap.size, 2, none⟩ (.slice q22 j22 J22)) = w41 at S n1 n2 n3 n4 n21 d21 n22 d22 HH hS ⊢
            clear hKK KK
            refine wpAnyH_done (by kernel_rfl) ?_ _
            go_wp2_with fail
            go_meet
            case rel => exact ⟨w3.heap.size, w33.heap.size, b21, p21, l21, K21, q21, j21, J21, b22, p22, l22, K22, q22, j22, J22, z21, z22, rfl, rfl, Su.of S [0, 1, 2, 3, 4] rfl, ⟨h21, n21, d21⟩, ⟨h22, n22, d22⟩, hz21, hz22, HH⟩
        ·
          go_simp; clear hS
          have H := S.hnew 34 [.bool false, .slice none 0 0, .slice none 0 0]
          replace S := S.al 34 [.bool false, .slice none 0 0, .slice none 0 0] (w32.heap.size)
          refine iv5 H n1 n2 n3 n4 HH ?_; clear n1 n2 n3 n4 HH H; intro n1 n2 n3 n4 HH
          refine ho hKK (con6 (S.c6 0 rfl) (con6 (S.c6 1 rfl) ⟨(S.c 2 0 rfl rfl), (S.c 2 1 rfl rfl)⟩)) fun hS => ?_
          generalize (w32.alloc (.cells #[.bool false, .slice none 0 0, .slice none 0 0] 34)) = w42 at S n1 n2 n3 n4 HH hS ⊢
          clear hKK KK
          refine rd 3 fun KK hKK => ?_
          go_simp; clear hS
          refine S.cl (sat_any (L := 200) (H := 520) (k := 23) _ ⟨b1, p1, l1, K1, m1, e1, b2, p2, l2, K2, m2, e2, rfl, h1, n1, d1, h2, n2, d2⟩ (by decide) (by decide) (by decide) (by decide) G.out.1) ?_; clear S; rintro e w43 ⟨_, rfl, z21, ⟨b21, p21, l21, K21, q21, j21, J21, rfl, h21, n21, d21⟩, hz21⟩ S H
          refine iv5 H n1 n2 n3 n4 HH ?_; clear n1 n2 n3 n4 HH H; intro n1 n2 n3 n4 HH
          go_wp2_with fail
          refine ho hKK (con6 (S.c6 0 rfl) (con6 (S.c6 1 rfl) ⟨(S.c 2 0 rfl rfl), (S.c 2 1 rfl rfl)⟩)) fun hS => ?_
          clear hKK KK
          refine rd 7 fun KK hKK => ?_
          go_simp; clear hS
          refine S.cl (sat_any (L := 200) (H := 520) (k := 23) _ ⟨b3, p3, l3, K3, m3, e3, b4, p4, l4, K4, m4, e4, rfl, h3, n3, d3, h4, n4, d4⟩ (by decide) (by decide) (by decide) (by decide) G.out.2) ?_; clear S; rintro e w44 ⟨_, rfl, z22, ⟨b22, p22, l22, K22, q22, j22, J22, rfl, h22, n22, d22⟩, hz22⟩ S H
          refine iv7 H n1 n2 n3 n4 n21 d21 HH ?_; clear n1 n2 n3 n4 n21 d21 HH H; intro n1 n2 n3 n4 n21 d21 HH
          go_wp2_with fail
          refine ho hKK (con6 (S.c6 0 rfl) (con6 (S.c6 1 rfl) ⟨(S.c 2 0 rfl rfl), (S.c 2 1 rfl rfl)⟩)) fun hS => ?_
          clear hKK KK
          refine rd 10 fun KK hKK => ?_
          obtain ⟨c0, c1, c2⟩ := S.c3 3 rfl; obtain ⟨f0, f1, f2⟩ := S.f3 3 rfl
          go_simp; clear hS c0 f0 c1 f1 c2 f2
          have HP := S.putq 3 (.bool b21) (.slice p21 l21 K21) (.slice q21 j21 J21) rfl rfl; have H := HP.2; replace S := HP.1; clear HP
          refine iv8 H n1 n2 n3 n4 n21 d21 n22 d22 ?_; clear n1 n2 n3 n4 n21 d21 n22 d22; intro n1 n2 n3 n4 n21 d21 n22 d22; replace HH := HH.trans H; clear H
          refine ho hKK (con6 (S.c6 0 rfl) (con6 (S.c6 1 rfl) ⟨(S.c 2 0 rfl rfl), (S.c 2 1 rfl rfl)⟩)) fun hS => ?_
          generalize (((w44.setCell ⟨w3.heap.size, 0, none⟩ (.bool b21)).setCell ⟨w3.heap.size, 1, none⟩ (.slice p21 l21 K21)).setCell ⟨w3.heap.size, 2, none⟩ (.slice q21 j21 J21)) = w45 at S n1 n2 n3 n4 n21 d21 n22 d22 HH hS ⊢
          clear hKK KK
          refine rd 11 fun KK hKK => ?_
          obtain ⟨c0, c1, c2⟩ := S.c3 4 rfl; obtain ⟨f0, f1, f2⟩ := S.f3 4 rfl
          go_simp; clear hS c0 f0 c1 f1 c2 f2
          have HP := S.putq 4 (.bool b22) (.slice p22 l22 K22) (.slice q22 j22 J22) rfl rfl; have H := HP.2; replace S := HP.1; clear HP
          refine iv8 H n1 n2 n3 n4 n21 d21 n22 d22 ?_; clear n1 n2 n3 n4 n21 d21 n22 d22; intro n1 n2 n3 n4 n21 d21 n22 d22; replace HH := HH.trans H; clear H
          refine ho hKK (con6 (S.c6 0 rfl) (con6 (S.c6 1 rfl) ⟨(S.c 2 0 rfl rfl), (S.c 2 1 rfl rfl)⟩)) fun hS => ?_
          generalize (((w45.setCell ⟨w32.heap.size, 0, none⟩ (.bool b22)).setCell ⟨w32.heap.size, 1, none⟩ (.slice p22 l22 K22)).setCell ⟨w32.heap.size, 2, none⟩ (.slice q22 j22 J22)) = w46 at S n1 n2 n3 n4 n21 d21 n22 d22 HH hS ⊢
          clear hKK KK
          refine wpAnyH_done (by kernel_rfl) ?_ _
          go_wp2_with fail
          go_meet
          case rel => exact ⟨w3.heap.size, w32.heap.size, b21, p21, l21, K21, q21, j21, J21, b22, p22, l22, K22, q22, j22, J22, z21, z22, rfl, rfl, Su.of S [0, 1, 2, 3, 4] rfl, ⟨h21, n21, d21⟩, ⟨h22, n22, d22⟩, hz21, hz22, HH⟩
      ·
        go_simp; clear hS
        have H := S.hnew 34 [.bool false, .slice none 0 0, .slice none 0 0]
        replace S := S.al 34 [.bool false, .slice none 0 0, .slice none 0 0] (w3.heap.size)
        refine iv5 H n1 n2 n3 n4 HH ?_; clear n1 n2 n3 n4 HH H; intro n1 n2 n3 n4 HH
        refine ho hKK (con6 (S.c6 0 rfl) (con6 (S.c6 1 rfl) ⟨(S.c 2 0 rfl rfl), (S.c 2 1 rfl rfl)⟩)) fun hS => ?_
        generalize (w3.alloc (.cells #[.bool false, .slice none 0 0, .slice none 0 0] 34)) = w47 at S n1 n2 n3 n4 HH hS ⊢
        clear hKK KK
        refine wpAnyH_ready (rs := [3, 8]) (by kernel_rfl) (by simp) (AllReadyH.cons (opOf rfl) (fun KK hKK => ?_) (AllReadyH.cons (opOf rfl) (fun KK hKK => ?_) AllReadyH.nil))
        ·
          go_simp; clear hS
          refine S.cl (sat_any (L := 200) (H := 520) (k := 23) _ ⟨b1, p1, l1, K1, m1, e1, b2, p2, l2, K2, m2, e2, rfl, h1, n1, d1, h2, n2, d2⟩ (by decide) (by decide) (by decide) (by decide) G.out.1) ?_; clear S; rintro e w48 ⟨_, rfl, z21, ⟨b21, p21, l21, K21, q21, j21, J21, rfl, h21, n21, d21⟩, hz21⟩ S H
          refine iv5 H n1 n2 n3 n4 HH ?_; clear n1 n2 n3 n4 HH H; intro n1 n2 n3 n4 HH
          go_wp2_with fail
          refine ho hKK (con6 (S.c6 0 rfl) (con6 (S.c6 1 rfl) ⟨(S.c 2 0 rfl rfl), (S.c 2 1 rfl rfl)⟩)) fun hS => ?_
          clear hKK KK
          refine wpAnyH_ready (rs := [7, 8]) (by kernel_rfl) (by simp) (AllReadyH.cons (opOf rfl) (fun KK hKK => ?_) (AllReadyH.cons (opOf rfl) (fun KK hKK => ?_) AllReadyH.nil))
          ·
            go_simp; clear hS
            refine S.cl (sat_any (L := 200) (H := 520) (k := 23) _ ⟨b3, p3, l3, K3, m3, e3, b4, p4, l4, K4, m4, e4, rfl, h3, n3, d3, h4, n4, d4⟩ (by decide) (by decide) (by decide) (by decide) G.out.2) ?_; clear S; rintro e w49 ⟨_, rfl, z22, ⟨b22, p22, l22, K22, q22, j22, J22, rfl, h22, n22, d22⟩, hz22⟩ S H
            refine iv7 H n1 n2 n3 n4 n21 d21 HH ?_; clear n1 n2 n3 n4 n21 d21 HH H; intro n1 n2 n3 n4 n21 d21 HH
            go_wp2_with fail
            refine ho hKK (con6 (S.c6 0 rfl) (con6 (S.c6 1 rfl) ⟨(S.c 2 0 rfl rfl), (S.c 2 1 rfl rfl)⟩)) fun hS => ?_
            clear hKK KK
            refine rd 8 fun KK hKK => ?_
            go_simp; clear hS
            have H := S.hnew 34 [.bool false, .slice none 0 0, .slice none 0 0]
            replace S := S.al 34 [.bool false, .slice none 0 0, .slice none 0 0] (w49.heap.size)
            refine iv8 H n1 n2 n3 n4 n21 d21 n22 d22 ?_; clear n1 n2 n3 n4 n21 d21 n22 d22; intro n1 n2 n3 n4 n21 d21 n22 d22; replace HH := HH.trans H; clear H
            refine ho hKK (con6 (S.c6 0 rfl) (con6 (S.c6 1 rfl) ⟨(S.c 2 0 rfl rfl), (S.c 2 1 rfl rfl)⟩)) fun hS => ?_
            generalize (w49.alloc (.cells #[.bool false, .slice none 0 0, .slice none 0 0] 34)) = w50 at S n1 n2 n3 n4 n21 d21 n22 d22 HH hS ⊢
            clear hKK KK
            refine rd 10 fun KK hKK => ?_
            obtain ⟨c0, c1, c2⟩ := S.c3 4 rfl; obtain ⟨f0, f1, f2⟩ := S.f3 4 rfl
            go_simp; clear hS c0 f0 c1 f1 c2 f2
            have HP := S.putq 4 (.bool b21) (.slice p21 l21 K21) (.slice q21 j21 J21) rfl rfl; have H := HP.2; replace S := HP.1; clear HP
            refine iv8 H n1 n2 n3 n4 n21 d21 n22 d22 ?_; clear n1 n2 n3 n4 n21 d21 n22 d22; intro n1 n2 n3 n4 n21 d21 n22 d22; replace HH := HH.trans H; clear H
            refine ho hKK (con6 (S.c6 0 rfl) (con6 (S.c6 1 rfl) ⟨(S.c 2 0 rfl rfl), (S.c 2 1 rfl rfl)⟩)) fun hS => ?_
            generalize (((w50.setCell ⟨w49.heap.size, 0, none⟩ (.bool b21)).setCell ⟨w49.heap.size, 1, none⟩ (.slice p21 l21 K21)).setCell ⟨w49.heap.size, 2, none⟩ (.slice q21 j21 J21)) = w51 at S n1 n2 n3 n4 n21 d21 n22 d22 HH hS ⊢
            clear hKK KK
            refine rd 11 fun KK hKK => ?_
            obtain ⟨c0, c1, c2⟩ := S.c3 3 rfl; obtain ⟨f0, f1, f2⟩ := S.f3 3 rfl
            go_simp; clear hS c0 f0 c1 f1 c2 f2
            have HP := S.putq 3 (.bool b22) (.slice p22 l22 K22) (.slice q22 j22 J22) rfl rfl; have H := HP.2; replace S := HP.1; clear HP
            refine iv8 H n1 n2 n3 n4 n21 d21 n22 d22 ?_; clear n1 n2 n3 n4 n21 d21 n22 d22; intro n1 n2 n3 n4 n21 d21 n22 d22; replace HH := HH.trans H; clear H
            refine ho hKK (con6 (S.c6 0 rfl) (con6 (S.c6 1 rfl) ⟨(S.c 2 0 rfl rfl), (S.c 2 1 rfl rfl)⟩)) fun hS => ?_
            generalize (((w51.setCell ⟨w3.heap.size, 0, none⟩ (.bool b22)).setCell ⟨w3.heap.size, 1, none⟩ (.slice p22 l22 K22)).setCell ⟨w3.heap.size, 2, none⟩ (.slice q22 j22 J22)) = w52 at S n1 n2 n3 n4 n21 d21 n22 d22 HH hS ⊢
            clear hKK KK
            refine wpAnyH_done (by kernel_rfl) ?_ _
            go_wp2_with fail
            go_meet
            case rel => exact ⟨w49.heap.size, w3.heap.size, b21, p21, l21, K21, q21, j21, J21, b22, p22, l22, K22, q22, j22, J22, z21, z22, rfl, rfl, Su.of S [0, 1, 2, 4, 3] rfl, ⟨h21, n21, d21⟩, ⟨h22, n22, d22⟩, hz21, hz22, HH⟩
          ·
            go_simp; clear hS
            have H := S.hnew 34 [.bool false, .slice none 0 0, .slice none 0 0]
            replace S := S.al 34 [.bool false, .slice none 0 0, .slice none 0 0] (w48.heap.size)
            refine iv7 H n1 n2 n3 n4 n21 d21 HH ?_; clear n1 n2 n3 n4 n21 d21 HH H; intro n1 n2 n3 n4 n21 d21 HH
            refine ho hKK (con6 (S.c6 0 rfl) (con6 (S.c6 1 rfl) ⟨(S.c 2 0 rfl rfl), (S.c 2 1 rfl rfl)⟩)) fun hS => ?_
            generalize (w48.alloc (.cells #[.bool false, .slice none 0 0, .slice none 0 0] 34)) = w53 at S n1 n2 n3 n4 n21 d21 HH hS ⊢
            clear hKK KK
            refine rd 7 fun KK hKK => ?_
            go_simp; clear hS
            refine S.cl (sat_any (L := 200) (H := 520) (k := 23) _ ⟨b3, p3, l3, K3, m3, e3, b4, p4, l4, K4, m4, e4, rfl, h3, n3, d3, h4, n4, d4⟩ (by decide) (by decide) (by decide) (by decide) G.out.2) ?_; clear S; rintro e w54 ⟨_, rfl, z22, ⟨b22, p22, l22, K22, q22, j22, J22, rfl, h22, n22, d22⟩, hz22⟩ S H
            refine iv7 H n1 n2 n3 n4 n21 d21 HH ?_; clear n1 n2 n3 n4 n21 d21 HH H; intro n1 n2 n3 n4 n21 d21 HH
            go_wp2_with fail
            refine ho hKK (con6 (S.c6 0 rfl) (con6 (S.c6 1 rfl) ⟨(S.c 2 0 rfl rfl), (S.c 2 1 rfl rfl)⟩)) fun hS => ?_
            clear hKK KK
            refine rd 10 fun KK hKK => ?_
            obtain ⟨c0, c1, c2⟩ := S.c3 4 rfl; obtain ⟨f0, f1, f2⟩ := S.f3 4 rfl
            go_simp; clear hS c0 f0 c1 f1 c2 f2
            have HP := S.putq 4 (.bool b21) (.slice p21 l21 K21) (.slice q21 j21 J21) rfl rfl; have H := HP.2; replace S := HP.1; clear HP
            refine iv8 H n1 n2 n3 n4 n21 d21 n22 d22 ?_; clear n1 n2 n3 n4 n21 d21 n22 d22; intro n1 n2 n3 n4 n21 d21 n22 d22; replace HH := HH.trans H; clear H
            refine ho hKK (con6 (S.c6 0 rfl) (con6 (S.c6 1 rfl) ⟨(S.c 2 0 rfl rfl), (S.c 2 1 rfl rfl)⟩)) fun hS => ?_
            generalize (((w54.setCell ⟨w48.heap.size, 0, none⟩ (.bool b21)).setCell ⟨w48.heap.size, 1, none⟩ (.slice p21 l21 K21)).setCell ⟨w48.heap.size, 2, none⟩ (.slice q21 j21 J21)) = w55 at S n1 n2 n3 n4 n21 d21 n22 d22 HH hS ⊢
            clear hKK KK
            refine rd 11 fun KK hKK => ?_
            obtain ⟨c0, c1, c2⟩ := S.c3 3 rfl; obtain ⟨f0, f1, f2⟩ := S.f3 3 rfl
            go_simp; clear hS c0 f0 c1 f1 c2 f2
            have HP := S.putq 3 (.bool b22) (.slice p22 l22 K22) (.slice q22 j22 J22) rfl rfl; have H := HP.2; replace S := HP.1; clear HP
            refine iv8 H n1 n2 n3 n4 n21 d21 n22 d22 ?_; clear n1 n2 n3 n4 n21 d21 n22 d22; intro n1 n2 n3 n4 n21 d21 n22 d22; replace HH := HH.trans H; clear H
            refine ho hKK (con6 (S.c6 0 rfl) (con6 (S.c6 1 rfl) ⟨(S.c 2 0 rfl rfl), (S.c 2 1 rfl rfl)⟩)) fun hS => ?_
            generalize (((w55.setCell ⟨w3.heap.size, 0, none⟩ (.bool b22)).setCell ⟨w3.heap.size, 1, none⟩ (.slice p22 l22 K22)).setCell ⟨w3.heap.size, 2, none⟩ (.slice q22 j22 J22)) = w56 at S n1 n2 n3 n4 n21 d21 n22 d22 HH hS ⊢
            clear hKK KK
            refine wpAnyH_done (by kernel_rfl) ?_ _
            go_wp2_with fail
            go_meet
            case rel => exact ⟨w48.heap.size, w3.heap.size, b21, p21, l21, K21, q21, j21, J21, b22, p22, l22, K22, q22, j22, J22, z21, z22, rfl, rfl, Su.of S [0, 1, 2, 4, 3] rfl, ⟨h21, n21, d21⟩, ⟨h22, n22, d22⟩, hz21, hz22, HH⟩
        ·
          go_simp; clear hS
          have H := S.hnew 34 [.bool false, .slice none 0 0, .slice none 0 0]
          replace S := S.al 34 [.bool false, .slice none 0 0, .slice none 0 0] (w47.heap.size)
          refine iv5 H n1 n2 n3 n4 HH ?_; clear n1 n2 n3 n4 HH H; intro n1 n2 n3 n4 HH
          refine ho hKK (con6 (S.c6 0 rfl) (con6 (S.c6 1 rfl) ⟨(S.c 2 0 rfl rfl), (S.c 2 1 rfl rfl)⟩)) fun hS => ?_
          generalize (w47.alloc (.cells #[.bool false, .slice none 0 0, .slice none 0 0] 34)) = w57 at S n1 n2 n3 n4 HH hS ⊢
          clear hKK KK
          refine rd 3 fun KK hKK => ?_
          go_simp; clear hS
          refine S.cl (sat_any (L := 200) (H := 520) (k := 23) _ ⟨b1, p1, l1, K1, m1, e1, b2, p2, l2, K2, m2, e2, rfl, h1, n1, d1, h2, n2, d2⟩ (by decide) (by decide) (by decide) (by decide) G.out.1) ?_; clear S; rintro e w58 ⟨_, rfl, z21, ⟨b21, p21, l21, K21, q21, j21, J21, rfl, h21, n21, d21⟩, hz21⟩ S H
          refine iv5 H n1 n2 n3 n4 HH ?_; clear n1 n2 n3 n4 HH H; intro n1 n2 n3 n4 HH
          go_wp2_with fail
          refine ho hKK (con6 (S.c6 0 rfl) (con6 (S.c6 1 rfl) ⟨(S.c 2 0 rfl rfl), (S.c 2 1 rfl rfl)⟩)) fun hS => ?_
          clear hKK KK
          refine rd 7 fun KK hKK => ?_
          go_simp; clear hS
          refine S.cl (sat_any (L := 200) (H := 520) (k := 23) _ ⟨b3, p3, l3, K3, m3, e3, b4, p4, l4, K4, m4, e4, rfl, h3, n3, d3, h4, n4, d4⟩ (by decide) (by decide) (by decide) (by decide) G.out.2) ?_; clear S; rintro e w59 ⟨_, rfl, z22, ⟨b22, p22, l22, K22, q22, j22, J22, rfl, h22, n22, d22⟩, hz22⟩ S H
          refine iv7 H n1 n2 n3 n4 n21 d21 HH ?_; clear n1 n2 n3 n4 n21 d21 HH H; intro n1 n2 n3 n4 n21 d21 HH
          go_wp2_with fail
          refine ho hKK (con6 (S.c6 0 rfl) (con6 (S.c6 1 rfl) ⟨(S.c 2 0 rfl rfl), (S.c 2 1 rfl rfl)⟩)) fun hS => ?_
          clear hKK KK
          refine rd 10 fun KK hKK => ?_
          obtain ⟨c0, c1, c2⟩ := S.c3 4 rfl; obtain ⟨f0, f1, f2⟩ := S.f3 4 rfl
          go_simp; clear hS c0 f0 c1 f1 c2 f2
          have HP := S.putq 4 (.bool b21) (.slice p21 l21 K21) (.slice q21 j21 J21) rfl rfl; have H := HP.2; replace S := HP.1; clear HP
          refine iv8 H n1 n2 n3 n4 n21 d21 n22 d22 ?_; clear n1 n2 n3 n4 n21 d21 n22 d22; intro n1 n2 n3 n4 n21 d21 n22 d22; replace HH := HH.trans H; clear H
          refine ho hKK (con6 (S.c6 0 rfl) (con6 (S.c6 1 rfl) ⟨(S.c 2 0 rfl rfl), (S.c 2 1 rfl rfl)⟩)) fun hS => ?_
          generalize (((w59.setCell ⟨w47.heap.size, 0, none⟩ (.bool b21)).setCell ⟨w47.heap.size, 1, none⟩ (.slice p21 l21 K21)).setCell ⟨w47.heap.size, 2, none⟩ (.slice q21 j21 J21)) = w60 at S n1 n2 n3 n4 n21 d21 n22 d22 HH hS ⊢
          clear hKK KK
          refine rd 11 fun KK hKK => ?_
          obtain ⟨c0, c1, c2⟩ := S.c3 3 rfl; obtain ⟨f0, f1, f2⟩ := S.f3 3 rfl
          go_simp; clear hS c0 f0 c1 f1 c2 f2
          have HP := S.putq 3 (.bool b22) (.slice p22 l22 K22) (.slice q22 j22 J22) rfl rfl; have H := HP.2; replace S := HP.1; clear HP
          refine iv8 H n1 n2 n3 n4 n21 d21 n22 d22 ?_; clear n1 n2 n3 n4 n21 d21 n22 d22; intro n1 n2 n3 n4 n21 d21 n22 d22; replace HH := HH.trans H; clear H
          refine ho hKK (con6 (S.c6 0 rfl) (con6 (S.c6 1 rfl) ⟨(S.c 2 0 rfl rfl), (S.c 2 1 rfl rfl)⟩)) fun hS => ?_
          generalize (((w60.setCell ⟨w3.heap.size, 0, none⟩ (.bool b22)).setCell ⟨w3.heap.size, 1, none⟩ (.slice p22 l22 K22)).setCell ⟨w3.heap.size, 2, none⟩ (.slice q22 j22 J22)) = w61 at S n1 n2 n3 n4 n21 d21 n22 d22 HH hS ⊢
          clear hKK KK
          refine wpAnyH_done (by kernel_rfl) ?_ _
          go_wp2_with fail
          go_meet
          case rel => exact ⟨w47.heap.size, w3.heap.size, b21, p21, l21, K21, q21, j21, J21, b22, p22, l22, K22, q22, j22, J22, z21, z22, rfl, rfl, Su.of S [0, 1, 2, 4, 3] rfl, ⟨h21, n21, d21⟩, ⟨h22, n22, d22⟩, hz21, hz22, HH⟩
    case rest =>
      obtain ⟨g8, g9, b21, p21, l21, K21, q21, j21, J21, b22, p22, l22, K22, q22, j22, J22, z21, z22, rfl, rfl, S, ⟨h21, n21, d21⟩, ⟨h22, n22, d22⟩, hz21, hz22, HH⟩ := hcut
      obtain ⟨w62, rfl⟩ : ∃ W : World, W = wc := ⟨_, rfl⟩
      refine iv4 HH n1 n2 n3 n4 ?_; clear n1 n2 n3 n4 HH; intro n1 n2 n3 n4
      have HZ := Lib.hid (And.intro hz21.out hz22.out)
      have HA := Lib.hid (in_add HD.out.1 HD.out.2.1 HD.out.2.2.1 HD.out.2.2.2 hz21.out.1 hz21.out.2.1 hz22.out.1 hz22.out.2.1 k)
      have HS := Lib.hid (in_sub HD.out.1 HD.out.2.1 HD.out.2.2.1 HD.out.2.2.2 hz21.out.1 hz21.out.2.1 hz22.out.1 hz22.out.2.1 k)
      have HM := Lib.hid (in_mul HD.out.1 HD.out.2.1 HD.out.2.2.1 HD.out.2.2.2 hz21.out.1 hz21.out.2.1 hz22.out.1 hz22.out.2.1 k)
      have HR := Lib.hid (in_rnd HD.out.1 HD.out.2.1 hz21.out.1 hz21.out.2.1 k)
      have HU := Lib.hid (in_sum3 HD.out.1 HD.out.2.1 HD.out.2.2.1 HD.out.2.2.2 hz21.out.1 hz21.out.2.1 hz22.out.1 hz22.out.2.1 k)
      clear hz21 hz22; have c0_ := S.c6 0 rfl; have c1_ := S.c6 1 rfl; go_wp2_with fail; clear c0_ c1_
      refine S.cl (sadd_v (L := 200) (H := 520) (HT.out.below S.below) ⟨b1, p1, l1, K1, m1, e1, b2, p2, l2, K2, m2, e2, rfl, h1, n1, d1, h2, n2, d2⟩ ⟨b3, p3, l3, K3, m3, e3, b4, p4, l4, K4, m4, e4, rfl, h3, n3, d3, h4, n4, d4⟩ (by decide) k HK.out.1 HK.out.2 rfl rfl) ?_; clear S; rintro e w63 ⟨_, rfl, b31, p31, l31, K31, m31, e31, b32, p32, l32, K32, m32, e32, rfl, h31, n31, d31, h32, n32, d32⟩ S H
      refine iv8 H n1 n2 n3 n4 n21 d21 n22 d22 ?_; clear n1 n2 n3 n4 n21 d21 n22 d22; intro n1 n2 n3 n4 n21 d21 n22 d22
      clear H; have c0_ := S.c6 0 rfl; have c1_ := S.c6 1 rfl
      have H := S.hnew 29 [.bool b31, .slice p31 l31 K31, .int .i64 e31, .bool b32, .slice p32 l32 K32, .int .i64 e32]
      replace S := S.al 29 [.bool b31, .slice p31 l31 K31, .int .i64 e31, .bool b32, .slice p32 l32 K32, .int .i64 e32] (w63.heap.size)
      refine iv8 H n1 n2 n3 n4 n21 d21 n22 d22 ?_; clear n1 n2 n3 n4 n21 d21 n22 d22; intro n1 n2 n3 n4 n21 d21 n22 d22; refine iv2 H n31 n32 ?_; clear n31 n32; intro n31 n32
      clear H; clear c0_ c1_; have c0_ := S.c6 0 rfl; have c1_ := S.c6 1 rfl; go_wp2_with fail
      generalize (.tuple #[.agg #[.bool b31, .slice p31 l31 K31, .int .i64 e31, .bool b32, .slice p32 l32 K32, .int .i64 e32], .int .i64 0] : Value) = g1
      clear c0_ c1_
      refine S.cl (ssub_v (L := 200) (H := 520) (HT.out.below S.below) ⟨b1, p1, l1, K1, m1, e1, b2, p2, l2, K2, m2, e2, rfl, h1, n1, d1, h2, n2, d2⟩ ⟨b3, p3, l3, K3, m3, e3, b4, p4, l4, K4, m4, e4, rfl, h3, n3, d3, h4, n4, d4⟩ (by decide) k HK.out.1 HK.out.2 rfl rfl) ?_; clear S; rintro e w64 ⟨_, rfl, b33, p33, l33, K33, m33, e33, b34, p34, l34, K34, m34, e34, rfl, h33, n33, d33, h34, n34, d34⟩ S H
      refine iv8 H n1 n2 n3 n4 n21 d21 n22 d22 ?_; clear n1 n2 n3 n4 n21 d21 n22 d22; intro n1 n2 n3 n4 n21 d21 n22 d22; refine iv2 H n31 n32 ?_; clear n31 n32; intro n31 n32
      clear H; have c0_ := S.c6 0 rfl; have c1_ := S.c6 1 rfl
      have H := S.hnew 29 [.bool b33, .slice p33 l33 K33, .int .i64 e33, .bool b34, .slice p34 l34 K34, .int .i64 e34]
      replace S := S.al 29 [.bool b33, .slice p33 l33 K33, .int .i64 e33, .bool b34, .slice p34 l34 K34, .int .i64 e34] (w64.heap.size)
      refine iv8 H n1 n2 n3 n4 n21 d21 n22 d22 ?_; clear n1 n2 n3 n4 n21 d21 n22 d22; intro n1 n2 n3 n4 n21 d21 n22 d22; refine iv4 H n31 n32 n33 n34 ?_; clear n31 n32 n33 n34; intro n31 n32 n33 n34
      clear H; clear c0_ c1_; have c0_ := S.c6 0 rfl; have c1_ := S.c6 1 rfl; go_wp2_with fail
      generalize (.tuple #[.agg #[.bool b33, .slice p33 l33 K33, .int .i64 e33, .bool b34, .slice p34 l34 K34, .int .i64 e34], .int .i64 0] : Value) = g2
      clear c0_ c1_
      refine S.cl (smul_v (L := 200) (H := 520) (HT.out.below S.below) ⟨b1, p1, l1, K1, m1, e1, b2, p2, l2, K2, m2, e2, rfl, h1, n1, d1, h2, n2, d2⟩ ⟨b3, p3, l3, K3, m3, e3, b4, p4, l4, K4, m4, e4, rfl, h3, n3, d3, h4, n4, d4⟩ (by decide) k HK.out.1 HK.out.2 rfl rfl) ?_; clear S; rintro e w65 ⟨_, rfl, b35, p35, l35, K35, m35, e35, b36, p36, l36, K36, m36, e36, rfl, h35, n35, d35, h36, n36, d36⟩ S H
      refine iv8 H n1 n2 n3 n4 n21 d21 n22 d22 ?_; clear n1 n2 n3 n4 n21 d21 n22 d22; intro n1 n2 n3 n4 n21 d21 n22 d22; refine iv4 H n31 n32 n33 n34 ?_; clear n31 n32 n33 n34; intro n31 n32 n33 n34
      clear H; have c0_ := S.c6 0 rfl; have c1_ := S.c6 1 rfl
      have H := S.hnew 29 [.bool b35, .slice p35 l35 K35, .int .i64 e35, .bool b36, .slice p36 l36 K36, .int .i64 e36]
      replace S := S.al 29 [.bool b35, .slice p35 l35 K35, .int .i64 e35, .bool b36, .slice p36 l36 K36, .int .i64 e36] (w65.heap.size)
      refine iv8 H n1 n2 n3 n4 n21 d21 n22 d22 ?_; clear n1 n2 n3 n4 n21 d21 n22 d22; intro n1 n2 n3 n4 n21 d21 n22 d22; refine iv6 H n31 n32 n33 n34 n35 n36 ?_; clear n31 n32 n33 n34 n35 n36; intro n31 n32 n33 n34 n35 n36
      clear H; clear c0_ c1_; have c0_ := S.c6 0 rfl; have c1_ := S.c6 1 rfl; clear c0_ c1_; have c0_ := S.c6 0 rfl; go_wp2_with fail
      generalize (.tuple #[.agg #[.bool b35, .slice p35 l35 K35, .int .i64 e35, .bool b36, .slice p36 l36 K36, .int .i64 e36], .int .i64 0] : Value) = g3
      clear c0_
      refine S.cl (sround_v (L := 200) (H := 520) (HT.out.below S.below) ⟨b1, p1, l1, K1, m1, e1, b2, p2, l2, K2, m2, e2, rfl, h1, n1, d1, h2, n2, d2⟩ (by decide) k HK.out.1 HK.out.2 rfl rfl) ?_; clear S; rintro e w66 ⟨_, rfl, b37, p37, l37, K37, m37, e37, b38, p38, l38, K38, m38, e38, rfl, h37, n37, d37, h38, n38, d38⟩ S H
      refine iv8 H n1 n2 n3 n4 n21 d21 n22 d22 ?_; clear n1 n2 n3 n4 n21 d21 n22 d22; intro n1 n2 n3 n4 n21 d21 n22 d22; refine iv6 H n31 n32 n33 n34 n35 n36 ?_; clear n31 n32 n33 n34 n35 n36; intro n31 n32 n33 n34 n35 n36
      clear H; have c0_ := S.c6 0 rfl
      have H := S.hnew 29 [.bool b37, .slice p37 l37 K37, .int .i64 e37, .bool b38, .slice p38 l38 K38, .int .i64 e38]
      replace S := S.al 29 [.bool b37, .slice p37 l37 K37, .int .i64 e37, .bool b38, .slice p38 l38 K38, .int .i64 e38] (w66.heap.size)
      refine iv8 H n1 n2 n3 n4 n21 d21 n22 d22 ?_; clear n1 n2 n3 n4 n21 d21 n22 d22; intro n1 n2 n3 n4 n21 d21 n22 d22; refine iv8 H n31 n32 n33 n34 n35 n36 n37 n38 ?_; clear n31 n32 n33 n34 n35 n36 n37 n38; intro n31 n32 n33 n34 n35 n36 n37 n38
      clear H; clear c0_; have c3_ := S.c3 3 rfl; have c4_ := S.c3 4 rfl; go_wp2_with fail
      generalize (.tuple #[.agg #[.bool b37, .slice p37 l37 K37, .int .i64 e37, .bool b38, .slice p38 l38 K38, .int .i64 e38], .int .i64 0] : Value) = g4
      clear c3_ c4_
      refine S.cl (radd_any ⟨b21, p21, l21, K21, q21, j21, J21, rfl, h21, n21, d21⟩ ⟨b22, p22, l22, K22, q22, j22, J22, rfl, h22, n22, d22⟩ HZ.out.1.2.2 HZ.out.2.2.2 (by decide) (z21 + z22) rfl) ?_; clear S; rintro e w67 ⟨_, rfl, b41, p41, l41, K41, q41, j41, J41, rfl, h41, n41, d41⟩ S H
      refine iv8 H n1 n2 n3 n4 n21 d21 n22 d22 ?_; clear n1 n2 n3 n4 n21 d21 n22 d22; intro n1 n2 n3 n4 n21 d21 n22 d22; refine iv8 H n31 n32 n33 n34 n35 n36 n37 n38 ?_; clear n31 n32 n33 n34 n35 n36 n37 n38; intro n31 n32 n33 n34 n35 n36 n37 n38
      clear H; have c3_ := S.c3 3 rfl; have c4_ := S.c3 4 rfl
      have H := S.hnew 34 [.bool b41, .slice p41 l41 K41, .slice q41 j41 J41]
      replace S := S.al 34 [.bool b41, .slice p41 l41 K41, .slice q41 j41 J41] (w67.heap.size)
      refine iv8 H n1 n2 n3 n4 n21 d21 n22 d22 ?_; clear n1 n2 n3 n4 n21 d21 n22 d22; intro n1 n2 n3 n4 n21 d21 n22 d22; refine iv8 H n31 n32 n33 n34 n35 n36 n37 n38 ?_; clear n31 n32 n33 n34 n35 n36 n37 n38; intro n31 n32 n33 n34 n35 n36 n37 n38; refine iv2 H n41 d41 ?_; clear n41 d41; intro n41 d41
      clear H; clear c3_ c4_; have c3_ := S.c3 3 rfl; have c4_ := S.c3 4 rfl; go_wp2_with fail
      generalize (.tuple #[.agg #[.bool b41, .slice p41 l41 K41, .slice q41 j41 J41], .int .i64 0] : Value) = g5
      clear c3_ c4_
      refine S.cl (rsub_any ⟨b21, p21, l21, K21, q21, j21, J21, rfl, h21, n21, d21⟩ ⟨b22, p22, l22, K22, q22, j22, J22, rfl, h22, n22, d22⟩ HZ.out.1.2.2 HZ.out.2.2.2 (by decide) (z21 - z22) rfl) ?_; clear S; rintro e w68 ⟨_, rfl, b42, p42, l42, K42, q42, j42, J42, rfl, h42, n42, d42⟩ S H
      refine iv8 H n1 n2 n3 n4 n21 d21 n22 d22 ?_; clear n1 n2 n3 n4 n21 d21 n22 d22; intro n1 n2 n3 n4 n21 d21 n22 d22; refine iv8 H n31 n32 n33 n34 n35 n36 n37 n38 ?_; clear n31 n32 n33 n34 n35 n36 n37 n38; intro n31 n32 n33 n34 n35 n36 n37 n38; refine iv2 H n41 d41 ?_; clear n41 d41; intro n41 d41
      clear H; have c3_ := S.c3 3 rfl; have c4_ := S.c3 4 rfl
      have H := S.hnew 34 [.bool b42, .slice p42 l42 K42, .slice q42 j42 J42]
      replace S := S.al 34 [.bool b42, .slice p42 l42 K42, .slice q42 j42 J42] (w68.heap.size)
      refine iv8 H n1 n2 n3 n4 n21 d21 n22 d22 ?_; clear n1 n2 n3 n4 n21 d21 n22 d22; intro n1 n2 n3 n4 n21 d21 n22 d22; refine iv8 H n31 n32 n33 n34 n35 n36 n37 n38 ?_; clear n31 n32 n33 n34 n35 n36 n37 n38; intro n31 n32 n33 n34 n35 n36 n37 n38; refine iv4 H n41 d41 n42 d42 ?_; clear n41 d41 n42 d42; intro n41 d41 n42 d42
      clear H; clear c3_ c4_; have c3_ := S.c3 3 rfl; have c4_ := S.c3 4 rfl; go_wp2_with fail
      generalize (.tuple #[.agg #[.bool b42, .slice p42 l42 K42, .slice q42 j42 J42], .int .i64 0] : Value) = g6
      clear c3_ c4_
      refine S.cl (rmul_any ⟨b21, p21, l21, K21, q21, j21, J21, rfl, h21, n21, d21⟩ ⟨b22, p22, l22, K22, q22, j22, J22, rfl, h22, n22, d22⟩ HZ.out.1.2.2 HZ.out.2.2.2 (by decide) (z21 * z22) rfl) ?_; clear S; rintro e w69 ⟨_, rfl, b43, p43, l43, K43, q43, j43, J43, rfl, h43, n43, d43⟩ S H
      refine iv8 H n1 n2 n3 n4 n21 d21 n22 d22 ?_; clear n1 n2 n3 n4 n21 d21 n22 d22; intro n1 n2 n3 n4 n21 d21 n22 d22; refine iv8 H n31 n32 n33 n34 n35 n36 n37 n38 ?_; clear n31 n32 n33 n34 n35 n36 n37 n38; intro n31 n32 n33 n34 n35 n36 n37 n38; refine iv4 H n41 d41 n42 d42 ?_; clear n41 d41 n42 d42; intro n41 d41 n42 d42
      clear H; have c3_ := S.c3 3 rfl; have c4_ := S.c3 4 rfl
      have H := S.hnew 34 [.bool b43, .slice p43 l43 K43, .slice q43 j43 J43]
      replace S := S.al 34 [.bool b43, .slice p43 l43 K43, .slice q43 j43 J43] (w69.heap.size)
      refine iv8 H n1 n2 n3 n4 n21 d21 n22 d22 ?_; clear n1 n2 n3 n4 n21 d21 n22 d22; intro n1 n2 n3 n4 n21 d21 n22 d22; refine iv8 H n31 n32 n33 n34 n35 n36 n37 n38 ?_; clear n31 n32 n33 n34 n35 n36 n37 n38; intro n31 n32 n33 n34 n35 n36 n37 n38; refine iv6 H n41 d41 n42 d42 n43 d43 ?_; clear n41 d41 n42 d42 n43 d43; intro n41 d41 n42 d42 n43 d43
      clear H; clear c3_ c4_; have c3_ := S.c3 3 rfl; have c4_ := S.c3 4 rfl
      have H := S.hnew 34 [.bool b21, .slice p21 l21 K21, .slice q21 j21 J21, .bool b22, .slice p22 l22 K22, .slice q22 j22 J22, .bool b21, .slice p21 l21 K21, .slice q21 j21 J21]
      replace S := S.al 34 [.bool b21, .slice p21 l21 K21, .slice q21 j21 J21, .bool b22, .slice p22 l22 K22, .slice q22 j22 J22, .bool b21, .slice p21 l21 K21, .slice q21 j21 J21] (w69.heap.size + 1)
      refine iv8 H n1 n2 n3 n4 n21 d21 n22 d22 ?_; clear n1 n2 n3 n4 n21 d21 n22 d22; intro n1 n2 n3 n4 n21 d21 n22 d22; refine iv8 H n31 n32 n33 n34 n35 n36 n37 n38 ?_; clear n31 n32 n33 n34 n35 n36 n37 n38; intro n31 n32 n33 n34 n35 n36 n37 n38; refine iv6 H n41 d41 n42 d42 n43 d43 ?_; clear n41 d41 n42 d42 n43 d43; intro n41 d41 n42 d42 n43 d43
      clear H; go_wp2_with fail
      generalize (.tuple #[.agg #[.bool b43, .slice p43 l43 K43, .slice q43 j43 J43], .int .i64 0] : Value) = g7
      clear c3_ c4_
      refine S.cl (rsum3 (rats3u S 12 rfl h21 h22 h21 n21 d21 n22 d22 n21 d21) 72 HZ.out.1.2.2 HZ.out.2.2.2 HZ.out.1.2.2 (by decide) (z21 + z22 + z21) rfl) ?_; clear S; rintro e w70 ⟨_, rfl, b44, p44, l44, K44, q44, j44, J44, rfl, h44, n44, d44⟩ S H
      refine iv8 H n1 n2 n3 n4 n21 d21 n22 d22 ?_; clear n1 n2 n3 n4 n21 d21 n22 d22; intro n1 n2 n3 n4 n21 d21 n22 d22; refine iv8 H n31 n32 n33 n34 n35 n36 n37 n38 ?_; clear n31 n32 n33 n34 n35 n36 n37 n38; intro n31 n32 n33 n34 n35 n36 n37 n38; refine iv6 H n41 d41 n42 d42 n43 d43 ?_; clear n41 d41 n42 d42 n43 d43; intro n41 d41 n42 d42 n43 d43
      clear H; have c3_ := S.c3 3 rfl; have c4_ := S.c3 4 rfl
      have H := S.hnew 34 [.bool b44, .slice p44 l44 K44, .slice q44 j44 J44]
      replace S := S.al 34 [.bool b44, .slice p44 l44 K44, .slice q44 j44 J44] (w70.heap.size)
      refine iv8 H n1 n2 n3 n4 n21 d21 n22 d22 ?_; clear n1 n2 n3 n4 n21 d21 n22 d22; intro n1 n2 n3 n4 n21 d21 n22 d22; refine iv8 H n31 n32 n33 n34 n35 n36 n37 n38 ?_; clear n31 n32 n33 n34 n35 n36 n37 n38; intro n31 n32 n33 n34 n35 n36 n37 n38; refine iv8 H n41 d41 n42 d42 n43 d43 n44 d44 ?_; clear n41 d41 n42 d42 n43 d43 n44 d44; intro n41 d41 n42 d42 n43 d43 n44 d44
      clear H; clear c3_ c4_; have c0_ := S.c6 0 rfl; have c1_ := S.c6 1 rfl
      have H := S.hnew 29 [.bool b1, .slice p1 l1 K1, .int .i64 e1, .bool b2, .slice p2 l2 K2, .int .i64 e2, .bool b3, .slice p3 l3 K3, .int .i64 e3, .bool b4, .slice p4 l4 K4, .int .i64 e4, .bool b1, .slice p1 l1 K1, .int .i64 e1, .bool b2, .slice p2 l2 K2, .int .i64 e2]
      replace S := S.al 29 [.bool b1, .slice p1 l1 K1, .int .i64 e1, .bool b2, .slice p2 l2 K2, .int .i64 e2, .bool b3, .slice p3 l3 K3, .int .i64 e3, .bool b4, .slice p4 l4 K4, .int .i64 e4, .bool b1, .slice p1 l1 K1, .int .i64 e1, .bool b2, .slice p2 l2 K2, .int .i64 e2] (w70.heap.size + 1)
      refine iv8 H n1 n2 n3 n4 n21 d21 n22 d22 ?_; clear n1 n2 n3 n4 n21 d21 n22 d22; intro n1 n2 n3 n4 n21 d21 n22 d22; refine iv8 H n31 n32 n33 n34 n35 n36 n37 n38 ?_; clear n31 n32 n33 n34 n35 n36 n37 n38; intro n31 n32 n33 n34 n35 n36 n37 n38; refine iv8 H n41 d41 n42 d42 n43 d43 n44 d44 ?_; clear n41 d41 n42 d42 n43 d43 n44 d44; intro n41 d41 n42 d42 n43 d43 n44 d44
      clear H; go_wp2_with fail
      generalize (.tuple #[.agg #[.bool b44, .slice p44 l44 K44, .slice q44 j44 J44], .int .i64 0] : Value) = g8
      clear c0_ c1_
      refine S.cl (ssum3_v (L := 200) (H := 520) (HT.out.below S.below) (spans3u S 14 rfl ⟨h1, n1, d1, h2, n2, d2⟩ ⟨h3, n3, d3, h4, n4, d4⟩ ⟨h1, n1, d1, h2, n2, d2⟩) k HK.out.1 HK.out.2 (by decide) _ _ rfl rfl) ?_; clear S; rintro e w71 ⟨_, rfl, b39, p39, l39, K39, m39, e39, b40, p40, l40, K40, m40, e40, rfl, h39, n39, d39, h40, n40, d40⟩ S H
      refine iv8 H n1 n2 n3 n4 n21 d21 n22 d22 ?_; clear n1 n2 n3 n4 n21 d21 n22 d22; intro n1 n2 n3 n4 n21 d21 n22 d22; refine iv8 H n31 n32 n33 n34 n35 n36 n37 n38 ?_; clear n31 n32 n33 n34 n35 n36 n37 n38; intro n31 n32 n33 n34 n35 n36 n37 n38; refine iv8 H n41 d41 n42 d42 n43 d43 n44 d44 ?_; clear n41 d41 n42 d42 n43 d43 n44 d44; intro n41 d41 n42 d42 n43 d43 n44 d44
      clear H; have c0_ := S.c6 0 rfl; have c1_ := S.c6 1 rfl
      have H := S.hnew 29 [.bool b39, .slice p39 l39 K39, .int .i64 e39, .bool b40, .slice p40 l40 K40, .int .i64 e40]
      replace S := S.al 29 [.bool b39, .slice p39 l39 K39, .int .i64 e39, .bool b40, .slice p40 l40 K40, .int .i64 e40] (w71.heap.size)
      refine iv8 H n1 n2 n3 n4 n21 d21 n22 d22 ?_; clear n1 n2 n3 n4 n21 d21 n22 d22; intro n1 n2 n3 n4 n21 d21 n22 d22; refine iv8 H n31 n32 n33 n34 n35 n36 n37 n38 ?_; clear n31 n32 n33 n34 n35 n36 n37 n38; intro n31 n32 n33 n34 n35 n36 n37 n38; refine iv8 H n41 d41 n42 d42 n43 d43 n44 d44 ?_; clear n41 d41 n42 d42 n43 d43 n44 d44; intro n41 d41 n42 d42 n43 d43 n44 d44; refine iv2 H n39 n40 ?_; clear n39 n40; intro n39 n40
      clear H; clear c0_ c1_; have c5_ := S.c6 5 rfl; have c9_ := S.c3 9 rfl; go_wp2_with fail
      generalize (.tuple #[.agg #[.bool b39, .slice p39 l39 K39, .int .i64 e39, .bool b40, .slice p40 l40 K40, .int .i64 e40], .int .i64 0] : Value) = g9
      clear c5_ c9_
      refine S.cl (shas6_any (L := 200) (H := 522) (k1 := 23) (k2 := 145) (HT.out.below S.below) ⟨b31, p31, l31, K31, m31, e31, b32, p32, l32, K32, m32, e32, rfl, h31, n31, d31, h32, n32, d32⟩ ⟨b41, p41, l41, K41, q41, j41, J41, rfl, h41, n41, d41⟩ (by decide) (by decide) (rb_add HZ.out.1.2.2 HZ.out.2.2.2) (by decide) HA.out.1 HA.out.2 k (rq_few (HD.out.1.add HD.out.2.2.1) HK.out.1 false) (rq_few (HD.out.2.1.add HD.out.2.2.2) HK.out.1 true)) ?_; clear S; rintro e w72 rfl S H
      refine iv8 H n1 n2 n3 n4 n21 d21 n22 d22 ?_; clear n1 n2 n3 n4 n21 d21 n22 d22; intro n1 n2 n3 n4 n21 d21 n22 d22; refine iv8 H n31 n32 n33 n34 n35 n36 n37 n38 ?_; clear n31 n32 n33 n34 n35 n36 n37 n38; intro n31 n32 n33 n34 n35 n36 n37 n38; refine iv8 H n41 d41 n42 d42 n43 d43 n44 d44 ?_; clear n41 d41 n42 d42 n43 d43 n44 d44; intro n41 d41 n42 d42 n43 d43 n44 d44; refine iv2 H n39 n40 ?_; clear n39 n40; intro n39 n40
      clear H; have c5_ := S.c6 5 rfl; have c9_ := S.c3 9 rfl; clear c5_ c9_; have c6_ := S.c6 6 rfl; have c10_ := S.c3 10 rfl; go_wp2_with fail; clear c6_ c10_
      refine S.cl (shas6_any (L := 200) (H := 522) (k1 := 23) (k2 := 145) (HT.out.below S.below) ⟨b33, p33, l33, K33, m33, e33, b34, p34, l34, K34, m34, e34, rfl, h33, n33, d33, h34, n34, d34⟩ ⟨b42, p42, l42, K42, q42, j42, J42, rfl, h42, n42, d42⟩ (by decide) (by decide) (rb_sub HZ.out.1.2.2 HZ.out.2.2.2) (by decide) HS.out.1 HS.out.2 k (rq_few (HD.out.1.add HD.out.2.2.2.neg) HK.out.1 false) (rq_few (HD.out.2.1.add HD.out.2.2.1.neg) HK.out.1 true)) ?_; clear S; rintro e w73 rfl S H
      refine iv8 H n1 n2 n3 n4 n21 d21 n22 d22 ?_; clear n1 n2 n3 n4 n21 d21 n22 d22; intro n1 n2 n3 n4 n21 d21 n22 d22; refine iv8 H n31 n32 n33 n34 n35 n36 n37 n38 ?_; clear n31 n32 n33 n34 n35 n36 n37 n38; intro n31 n32 n33 n34 n35 n36 n37 n38; refine iv8 H n41 d41 n42 d42 n43 d43 n44 d44 ?_; clear n41 d41 n42 d42 n43 d43 n44 d44; intro n41 d41 n42 d42 n43 d43 n44 d44; refine iv2 H n39 n40 ?_; clear n39 n40; intro n39 n40
      clear H; have c6_ := S.c6 6 rfl; have c10_ := S.c3 10 rfl; clear c6_ c10_; have c7_ := S.c6 7 rfl; have c11_ := S.c3 11 rfl; go_wp2_with fail; clear c7_ c11_
      refine S.cl (shas6_any (L := 400) (H := 1041) (k1 := 46) (k2 := 144) (HT.out.below S.below) ⟨b35, p35, l35, K35, m35, e35, b36, p36, l36, K36, m36, e36, rfl, h35, n35, d35, h36, n36, d36⟩ ⟨b43, p43, l43, K43, q43, j43, J43, rfl, h43, n43, d43⟩ (by decide) (by decide) (rb_mul HZ.out.1.2.2 HZ.out.2.2.2) (by decide) HM.out.1 HM.out.2 k (rq_few (loM_dyx HD.out.1 HD.out.2.1 HD.out.2.2.1 HD.out.2.2.2) HK.out.1 false) (rq_few (hiM_dyx HD.out.1 HD.out.2.1 HD.out.2.2.1 HD.out.2.2.2) HK.out.1 true)) ?_; clear S; rintro e w74 rfl S H
      refine iv8 H n1 n2 n3 n4 n21 d21 n22 d22 ?_; clear n1 n2 n3 n4 n21 d21 n22 d22; intro n1 n2 n3 n4 n21 d21 n22 d22; refine iv8 H n31 n32 n33 n34 n35 n36 n37 n38 ?_; clear n31 n32 n33 n34 n35 n36 n37 n38; intro n31 n32 n33 n34 n35 n36 n37 n38; refine iv8 H n41 d41 n42 d42 n43 d43 n44 d44 ?_; clear n41 d41 n42 d42 n43 d43 n44 d44; intro n41 d41 n42 d42 n43 d43 n44 d44; refine iv2 H n39 n40 ?_; clear n39 n40; intro n39 n40
      clear H; have c7_ := S.c6 7 rfl; have c11_ := S.c3 11 rfl; clear c7_ c11_; have c3_ := S.c3 3 rfl; have c8_ := S.c6 8 rfl; go_wp2_with fail; clear c3_ c8_
      refine S.cl (shas6_any (L := 200) (H := 521) (k1 := 23) (k2 := 72) (HT.out.below S.below) ⟨b37, p37, l37, K37, m37, e37, b38, p38, l38, K38, m38, e38, rfl, h37, n37, d37, h38, n38, d38⟩ ⟨b21, p21, l21, K21, q21, j21, J21, rfl, h21, n21, d21⟩ (by decide) (by decide) HZ.out.1.2.2 (by decide) HR.out.1 HR.out.2 k (rq_few HD.out.1 HK.out.1 false) (rq_few HD.out.2.1 HK.out.1 true)) ?_; clear S; rintro e w75 rfl S H
      refine iv8 H n1 n2 n3 n4 n21 d21 n22 d22 ?_; clear n1 n2 n3 n4 n21 d21 n22 d22; intro n1 n2 n3 n4 n21 d21 n22 d22; refine iv8 H n31 n32 n33 n34 n35 n36 n37 n38 ?_; clear n31 n32 n33 n34 n35 n36 n37 n38; intro n31 n32 n33 n34 n35 n36 n37 n38; refine iv8 H n41 d41 n42 d42 n43 d43 n44 d44 ?_; clear n41 d41 n42 d42 n43 d43 n44 d44; intro n41 d41 n42 d42 n43 d43 n44 d44; refine iv2 H n39 n40 ?_; clear n39 n40; intro n39 n40
      clear H; have c3_ := S.c3 3 rfl; have c8_ := S.c6 8 rfl; clear c3_ c8_; have c13_ := S.c3 13 rfl; have c15_ := S.c6 15 rfl; go_wp2_with fail; clear c13_ c15_
      refine S.cl (shas6_any (L := 200) (H := 526) (k1 := 23) (k2 := 218) (HT.out.below S.below) ⟨b39, p39, l39, K39, m39, e39, b40, p40, l40, K40, m40, e40, rfl, h39, n39, d39, h40, n40, d40⟩ ⟨b44, p44, l44, K44, q44, j44, J44, rfl, h44, n44, d44⟩ (by decide) (by decide) (rb_add (rb_add HZ.out.1.2.2 HZ.out.2.2.2) HZ.out.1.2.2) (by decide) HU.out.1 HU.out.2 k (rq_few (sum3_dyx HD.out.1 HD.out.2.2.1 HD.out.1 k false) HK.out.1 false) (rq_few (sum3_dyx HD.out.2.1 HD.out.2.2.2 HD.out.2.1 k true) HK.out.1 true)) ?_; clear S; rintro e w76 rfl S H
      refine iv8 H n1 n2 n3 n4 n21 d21 n22 d22 ?_; clear n1 n2 n3 n4 n21 d21 n22 d22; intro n1 n2 n3 n4 n21 d21 n22 d22; refine iv8 H n31 n32 n33 n34 n35 n36 n37 n38 ?_; clear n31 n32 n33 n34 n35 n36 n37 n38; intro n31 n32 n33 n34 n35 n36 n37 n38; refine iv8 H n41 d41 n42 d42 n43 d43 n44 d44 ?_; clear n41 d41 n42 d42 n43 d43 n44 d44; intro n41 d41 n42 d42 n43 d43 n44 d44; refine iv2 H n39 n40 ?_; clear n39 n40; intro n39 n40
      clear H; have c13_ := S.c3 13 rfl; have c15_ := S.c6 15 rfl; clear c13_ c15_; go_wp2_with fail
      exact bodyPost_ret (v := .bool true) (by simp [results, Tryz.f3, go_sem]) rfl (⟨rfl, S.below⟩)
end Go.Proofs.YtcdmojefheipoaaGreatDoor
