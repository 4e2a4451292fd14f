/-
  What the statement stands on.
-/
import Derived.Test.YtfnlmiajpledfaaGreatDoorM17
import Derived.WalkSpells
namespace Go.Proofs.YtfnlmiajpledfaaGreatDoor
open Go.RowKit
def IsRat (w : World) (v : Value) (q : Rat) : Prop := ∃ b p l K p' l' K', v = .agg #[.bool b, .slice p l K, .slice p' l' K'] ∧ Hid (negB q.num = b) ∧ IsNat w (.slice p l K) q.num.natAbs ∧ IsNat w (.slice p' l' K') q.den
theorem IsRat.hold {w w' : World} {v : Value} {q : Rat} (h : Hold w w') : IsRat w v q → IsRat w' v q
  | ⟨b, p, l, K, p', l', K', e, hb, n, d⟩ => ⟨b, p, l, K, p', l', K', e, hb, n.hold h, d.hold h⟩
instance hdI9 {w w' : World} {v : Value} {q : Rat} : Hd w w' (IsRat w v q) (IsRat w' v q) := ⟨IsRat.hold⟩
theorem IsRat.below {B : Nat} {w w' : World} {v : Value} {q : Rat} (hb : Below B w w') (hB : w.heap.size ≤ B) : IsRat w v q → IsRat w' v q
  | ⟨b, p, l, K, p', l', K', e, h, n, d⟩ => ⟨b, p, l, K, p', l', K', e, h, n.below hb hB, d.below hb hB⟩
def RB (q : Rat) (k : Nat) : Prop := q.num.natAbs < NB k ∧ q.den < NB k
theorem RB.mono {q : Rat} {a b : Nat} (h : RB q a) (hk : a ≤ b) : RB q b := ⟨nb_mono h.1 hk, nb_mono h.2 hk⟩
section
variable {ops : Array Oper} {rest : List Oper} {o : Oper} {a : Act} {Q : Exit → Act → World → Prop} {w : World}
theorem append_clone (hg : o.guard = none) (s x : Operand) (ho : o.op = .call { callee := .builtin .append, args := #[s, x], argTypes := #[23, 23] }) (w1 : World) (hw : w = w1.alloc (.cells #[] 159)) (hs : a.eval s = .slice (some ⟨w1.heap.size, 0, none⟩) 0 0)
    (n : Nat) (u : Value) (hx : a.eval x = u) (hn : IsNat w u n) (hm : n < maxN)
    (hK : ∀ v' w', IsNat w' v' n → Below w1.heap.size w1 w' → wpList Tryz.prog ops Q rest (a.put o.dst v') w') :
    wpList Tryz.prog ops Q (o :: rest) a w := by
  subst hw
  obtain ⟨ds, ⟨p, K, rfl, hat⟩, hc, hv⟩ := hn
  have hl : ds.length ≤ 512 := hc.len_max.2 (by rw [hv]; exact hm)
  obtain ⟨i0, hi, hz0, hz1, hz2⟩ := info_parts info_u32
  have hown : Own .u32 159 (w1.alloc (.cells #[] 159)) w1.heap.size (.slice (some ⟨w1.heap.size, 0, none⟩) 0 0) [] := Own.made (q := .u32) (t := 159) w1 w1.heap.size 0 [] (Nat.le_refl _) rfl (by simp)
  exact append_list hg 23 159 .u32 i0 4 Tryz.underlying23 hi hz0 hz1 hz2 (by decide) s x ho w1.heap.size _ [] ds hs hown p K ds.length rfl hx hat (by simp; omega) (by simp) w1.heap.size w1 ((Below.refl _ w1).alloc (Nat.le_refl _) _) (Nat.le_refl _) fun v' w' h1 h2 _ => hK v' w' ⟨ds, h1.nums, hc, hv⟩ h2
end
set_option maxRecDepth 100000 in
set_option maxHeartbeats 1000000 in
theorem clone_any {v : Value} {n : Nat} {w : World} (h : IsNat w v n) (hm : n < maxN) :
    Calls Tryz.prog 126 #[v] w fun e w' => (∃ u, e = .returned u ∧ IsNat w' u n) ∧ Below w.heap.size w w' := by
  obtain ⟨p, l, K, rfl⟩ := h.form
  have HN := Lib.hid (And.intro h hm)
  have hnil := fun (w : World) (a : Option Addr) (n c n' c' : Nat) => Lib.run_eql_slice_nil (P := Tryz.prog) w 23 159 a n c n' c' Tryz.underlying23
  cases p with
  | none =>
    obtain ⟨rfl, rfl⟩ : l = 0 ∧ K = 0 := by
      obtain ⟨ds, ⟨p', K', e, hat⟩, _⟩ := h
      have e1 : p' = none := by cases e; rfl
      subst e1
      rcases hat with ⟨rfl, h0⟩ | ⟨b, o, h1, _⟩
      · cases e; exact ⟨rfl, h0 rfl⟩
      · cases h1
    clear h hm
    go_enter Tryz.func126, Tryz.ntmps126
    go_wp2
    go_ret
    exact ⟨⟨_, rfl, HN.out.1⟩, Below.refl _ _⟩
  | some a =>
    clear h hm
    go_enter Tryz.func126, Tryz.ntmps126
    go_wp2_with (at_builtin; refine append_clone rfl (.tmp 5) (.tmp 6) rfl w rfl rfl n _ rfl (HN.out.1.below ((Below.refl _ w).alloc (Nat.le_refl _) _) (Nat.le_refl _)) HN.out.2 (fun v' w' hn' hB' => ?_))
    obtain ⟨p2, l2, K2, rfl⟩ := hn'.form
    have HV := Lib.hid hn'
    clear hn'; go_wp2_with fail
    exact bodyPost_ret (v := .slice p2 l2 K2) (by simp [results, Tryz.f126, go_sem]) rfl ⟨⟨_, rfl, HV.out⟩, hB'⟩
set_option maxRecDepth 100000 in
set_option maxHeartbeats 2000000 in
theorem rwhole_any {va : Value} {x : Int} {w : World} (ha : IsInt w va x) (hx : x.natAbs < maxN) (q : Rat) (hq : q = (x : Rat)) :
    Calls Tryz.prog 117 #[va] w fun e w' => (∃ u, e = .returned u ∧ IsRat w' u q) ∧ Below w.heap.size w w' := by
  obtain ⟨p1, l1, K1, rfl, n1⟩ := ha
  obtain ⟨b1, hb1⟩ : ∃ b1, negB x = b1 := ⟨_, rfl⟩
  rw [hb1]
  have HD := Lib.hid (And.intro hb1 (And.intro hx hq))
  clear hb1 hx hq
  have S := ((St.start w).alloc 25 [.bool b1, .slice p1 l1 K1] (w.heap.size)).alloc 34 [.bool false, .slice none 0 0, .slice none 0 0] (w.heap.size + 1)
  try simp only [List.cons_append, List.nil_append] at S
  replace n1 := n1.hold S.hold
  have c0_0 := S.c 0 0 rfl rfl; have c0_1 := S.c 0 1 rfl rfl; obtain ⟨c1_0, c1_1, c1_2⟩ := S.c3 1 rfl
  go_enter Tryz.func117, Tryz.ntmps117
  go_upto_region 1 with fail
  clear c0_0 c0_1 c1_0 c1_1 c1_2
  generalize ((w.alloc (.cells #[.bool b1, .slice p1 l1 K1] 25)).alloc (.cells #[.bool false, .slice none 0 0, .slice none 0 0] 34)) = w1 at S n1 ⊢
  go_cut [3] (fun s3 wx => ∃ g3 p l K, s3 = .pointer (some ⟨g3, 0, none⟩) ∧ St w wx [(w.heap.size, 25, [.bool b1, .slice p1 l1 K1]), (w.heap.size + 1, 34, [.bool false, .slice none 0 0, .slice none 0 0]), (g3, 25, [.bool b1, .slice p l K])] ∧ IsNat wx (.slice p l K) x.natAbs ∧ Hold w1 wx)
  case first =>
    have HH := Hold.drew w1
    replace n1 := n1.hold HH
    replace S := S.drew
    refine wp_region_held_drew (S := fun W => W.cell? ⟨w.heap.size, 0, none⟩ = some (.bool b1) ∧ W.cell? ⟨w.heap.size, 1, none⟩ = some (.slice p1 l1 K1)) (by kernel_rfl) ⟨(S.c 0 0 rfl rfl), (S.c 0 1 rfl rfl)⟩ (fun hS => ?_)
    generalize w1.drew = w2 at S n1 HH hS ⊢
    refine tk 0 hS ?_
    refine tk 1 hS ?_
    refine tk 2 hS ?_
    refine tk 3 hS ?_
    refine wpAnyH_ready (rs := [4, 6]) (by kernel_rfl) (by simp) (AllReadyH.cons (opOf rfl) (fun KK hKK => ?_) (AllReadyH.cons (opOf rfl) (fun KK hKK => ?_) AllReadyH.nil))
    ·
      go_simp; clear hS
      refine (S.call (clone_any n1 HD.out.2.1)).mono ?_
      clear S
      rintro e w3 ⟨⟨_, rfl, nv⟩, S, H⟩
      replace n1 := n1.hold H; replace HH := HH.trans H; clear H
      obtain ⟨p, l, K, rfl⟩ := nv.form
      go_wp2_with fail
      refine ho hKK ⟨(S.c 0 0 rfl rfl), (S.c 0 1 rfl rfl)⟩ fun hS => ?_
      clear hKK KK
      refine tk 5 hS ?_
      refine rd 6 fun KK hKK => ?_
      go_simp; clear hS
      have H := S.hnew 25 [.bool false, .slice none 0 0]
      replace S := S.al 25 [.bool false, .slice none 0 0] (w3.heap.size)
      replace n1 := n1.hold H; replace nv := nv.hold H; replace HH := HH.trans H; clear H
      refine ho hKK ⟨(S.c 0 0 rfl rfl), (S.c 0 1 rfl rfl)⟩ fun hS => ?_
      generalize (w3.alloc (.cells #[.bool false, .slice none 0 0] 25)) = w4 at S n1 nv HH hS ⊢
      clear hKK KK
      refine rd 7 fun KK hKK => ?_
      have c0 := S.c 2 0 rfl rfl; have f0 := S.f 2 0 rfl; have c1 := S.c 2 1 rfl rfl; have f1 := S.f 2 1 rfl; go_simp; clear hS c0 f0 c1 f1
      have H := S.hset 2 0 (.bool b1) rfl rfl (by intro q n e; cases e)
      replace S := S.set 2 0 (.bool b1) rfl
      replace n1 := n1.hold H; replace nv := nv.hold H; replace HH := HH.trans H; clear H
      have H := S.hset 2 1 (.slice p l K) rfl rfl (by intro q n e; cases e)
      replace S := S.set 2 1 (.slice p l K) rfl
      replace n1 := n1.hold H; replace nv := nv.hold H; replace HH := HH.trans H; clear H
      refine ho hKK ⟨(S.c 0 0 rfl rfl), (S.c 0 1 rfl rfl)⟩ fun hS => ?_
      generalize ((w4.setCell ⟨w3.heap.size, 0, none⟩ (.bool b1)).setCell ⟨w3.heap.size, 1, none⟩ (.slice p l K)) = w5 at S n1 nv HH hS ⊢
      clear hKK KK
      refine wpAnyH_done (by kernel_rfl) ?_ _
      go_wp2_with fail
      go_meet
      case rel => exact ⟨w3.heap.size, p, l, K, rfl, S, nv, HH⟩
    ·
      go_simp; clear hS
      have H := S.hnew 25 [.bool false, .slice none 0 0]
      replace S := S.al 25 [.bool false, .slice none 0 0] (w2.heap.size)
      replace n1 := n1.hold H; replace HH := HH.trans H; clear H
      refine ho hKK ⟨(S.c 0 0 rfl rfl), (S.c 0 1 rfl rfl)⟩ fun hS => ?_
      generalize (w2.alloc (.cells #[.bool false, .slice none 0 0] 25)) = w6 at S n1 HH hS ⊢
      clear hKK KK
      refine rd 4 fun KK hKK => ?_
      go_simp; clear hS
      refine (S.call (clone_any n1 HD.out.2.1)).mono ?_
      clear S
      rintro e w7 ⟨⟨_, rfl, nv⟩, S, H⟩
      replace n1 := n1.hold H; replace HH := HH.trans H; clear H
      obtain ⟨p, l, K, rfl⟩ := nv.form
      go_wp2_with fail
      refine ho hKK ⟨(S.c 0 0 rfl rfl), (S.c 0 1 rfl rfl)⟩ fun hS => ?_
      clear hKK KK
      refine tk 5 hS ?_
      refine rd 7 fun KK hKK => ?_
      have c0 := S.c 2 0 rfl rfl; have f0 := S.f 2 0 rfl; have c1 := S.c 2 1 rfl rfl; have f1 := S.f 2 1 rfl; go_simp; clear hS c0 f0 c1 f1
      have H := S.hset 2 0 (.bool b1) rfl rfl (by intro q n e; cases e)
      replace S := S.set 2 0 (.bool b1) rfl
      replace n1 := n1.hold H; replace nv := nv.hold H; replace HH := HH.trans H; clear H
      have H := S.hset 2 1 (.slice p l K) rfl rfl (by intro q n e; cases e)
      replace S := S.set 2 1 (.slice p l K) rfl
      replace n1 := n1.hold H; replace nv := nv.hold H; replace HH := HH.trans H; clear H
      refine ho hKK ⟨(S.c 0 0 rfl rfl), (S.c 0 1 rfl rfl)⟩ fun hS => ?_
      generalize ((w7.setCell ⟨w2.heap.size, 0, none⟩ (.bool b1)).setCell ⟨w2.heap.size, 1, none⟩ (.slice p l K)) = w8 at S n1 nv HH hS ⊢
      clear hKK KK
      refine wpAnyH_done (by kernel_rfl) ?_ _
      go_wp2_with fail
      go_meet
      case rel => exact ⟨w2.heap.size, p, l, K, rfl, S, nv, HH⟩
  case rest =>
    obtain ⟨g3, p, l, K, rfl, S, nv, HH⟩ := hcut
    obtain ⟨w9, rfl⟩ : ∃ W : World, W = wc := ⟨_, rfl⟩
    replace n1 := n1.hold HH; clear HH; have c0_0 := S.c 0 0 rfl rfl; have c0_1 := S.c 0 1 rfl rfl; obtain ⟨c1_0, c1_1, c1_2⟩ := S.c3 1 rfl; have c2_0 := S.c 2 0 rfl rfl; have c2_1 := S.c 2 1 rfl rfl
    go_upto_region 2 with fail
    clear c0_0 c0_1 c1_0 c1_1 c1_2 c2_0 c2_1
    have HH := Hold.drew w9
    replace n1 := n1.hold HH; replace nv := nv.hold HH
    replace S := S.drew
    refine wp_region_held_drew (S := fun W => W.cell? ⟨g3, 0, none⟩ = some (.bool b1) ∧ W.cell? ⟨g3, 1, none⟩ = some (.slice p l K)) (by kernel_rfl) ⟨(S.c 2 0 rfl rfl), (S.c 2 1 rfl rfl)⟩ (fun hS => ?_)
    generalize w9.drew = w10 at S n1 nv HH hS ⊢
    refine tk 0 hS ?_
    refine rd 1 fun KK hKK => ?_
    go_simp; clear hS
    refine (S.call (of_any 1 _ (by decide))).mono ?_
    clear S
    rintro e w11 ⟨⟨_, rfl, no⟩, S, H⟩
    replace n1 := n1.hold H; replace nv := nv.hold H; replace HH := HH.trans H; clear H
    obtain ⟨pd, ld, Kd, rfl⟩ := no.form
    go_wp2_with fail
    refine ho hKK ⟨(S.c 2 0 rfl rfl), (S.c 2 1 rfl rfl)⟩ fun hS => ?_
    clear hKK KK
    refine tk 2 hS ?_
    refine rd 3 fun KK hKK => ?_
    obtain ⟨c0, c1, c2⟩ := S.c3 1 rfl; obtain ⟨f0, f1, f2⟩ := S.f3 1 rfl
    go_simp; clear hS c0 f0 c1 f1 c2 f2
    have HP := S.putq 1 (.bool b1) (.slice p l K) (.slice pd ld Kd) rfl rfl; have H := HP.2; replace S := HP.1; clear HP
    refine iv3 H n1 nv no ?_; clear n1 nv no; intro n1 nv no; replace HH := HH.trans H; clear H
    refine ho hKK ⟨(S.c 2 0 rfl rfl), (S.c 2 1 rfl rfl)⟩ fun hS => ?_
    generalize (((w11.setCell ⟨w.heap.size + 1, 0, none⟩ (.bool b1)).setCell ⟨w.heap.size + 1, 1, none⟩ (.slice p l K)).setCell ⟨w.heap.size + 1, 2, none⟩ (.slice pd ld Kd)) = w12 at S n1 nv no HH hS ⊢
    clear hKK KK
    refine wpAnyH_done (by kernel_rfl) ?_ _
    clear hS HH; have c0_0 := S.c 0 0 rfl rfl; have c0_1 := S.c 0 1 rfl rfl; obtain ⟨c1_0, c1_1, c1_2⟩ := S.c3 1 rfl; have c2_0 := S.c 2 0 rfl rfl; have c2_1 := S.c 2 1 rfl rfl; go_wp2_with fail; obtain ⟨d1_0, d1_1, d1_2⟩ := S.c3 1 rfl
    exact bodyPost_ret (v := .agg #[.bool b1, .slice p l K, .slice pd ld Kd]) (by simp [results, Tryz.f117, go_sem, d1_0, d1_1, d1_2]) rfl (⟨⟨_, rfl, b1, p, l, K, pd, ld, Kd, rfl, by rw [HD.out.2.2]; exact HD.out.1, by rw [HD.out.2.2]; exact nv, by rw [HD.out.2.2]; exact no⟩, S.below⟩)
theorem IsInt.zero (w : World) : IsInt w (.agg #[.bool false, .slice none 0 0]) 0 := ⟨none, 0, 0, rfl, ⟨[], .nil _ _, Can.nil _, rfl⟩⟩
set_option maxRecDepth 100000 in
set_option maxHeartbeats 1000000 in
theorem rzero_any (w : World) : Calls Tryz.prog 46 #[] w fun e w' => (∃ u, e = .returned u ∧ IsRat w' u 0) ∧ Below w.heap.size w w' := by
  have HM := Lib.hid (lt_maxN (m := 0) (by decide))
  have S := (St.start w).alloc 34 [.bool false, .slice none 0 0, .slice none 0 0] (w.heap.size)
  try simp only [List.nil_append] at S
  obtain ⟨c0_0, c0_1, c0_2⟩ := S.c3 0 rfl
  go_enter Tryz.func46, Tryz.ntmps46
  go_wp2_with fail; clear c0_0 c0_1 c0_2
  refine (S.call (rwhole_any (IsInt.zero _) HM.out 0 rfl)).mono ?_
  clear S
  rintro e w1 ⟨⟨_, rfl, b, p, l, K, pd, ld, Kd, rfl, hb, nn, nd⟩, S, H⟩
  clear H; obtain ⟨c0_0, c0_1, c0_2⟩ := S.c3 0 rfl
  obtain ⟨f0_0, f0_1, f0_2⟩ := S.f3 0 rfl
  have HP := S.putq 0 (.bool b) (.slice p l K) (.slice pd ld Kd) rfl rfl; have H := HP.2; replace S := HP.1; clear HP
  replace nn := nn.hold H; replace nd := nd.hold H
  clear H; go_wp2_with fail; obtain ⟨d0_0, d0_1, d0_2⟩ := S.c3 0 rfl
  exact bodyPost_ret (v := .agg #[.bool b, .slice p l K, .slice pd ld Kd]) (by simp [results, Tryz.f46, go_sem, d0_0, d0_1, d0_2]) rfl (⟨⟨_, rfl, b, p, l, K, pd, ld, Kd, rfl, hb, nn, nd⟩, S.below⟩)
set_option maxRecDepth 100000 in
set_option maxHeartbeats 1000000 in
theorem rsign_any {va : Value} {x : Rat} {w : World} (ha : IsRat w va x) (hx : x.num.natAbs < maxN) {s : Int} (hs : x.num.sign = s) :
    Calls Tryz.prog 59 #[va] w fun e w' => e = .returned (.int .i64 s) ∧ Below w.heap.size w w' := by
  obtain ⟨b, p, l, K, p', l', K', rfl, hb, n1, d1⟩ := ha
  have HD := Lib.hid (And.intro hx hs)
  clear hx hs
  have S := (St.start w).alloc 34 [.bool b, .slice p l K, .slice p' l' K'] (w.heap.size)
  try simp only [List.nil_append] at S
  replace n1 := n1.hold S.hold
  obtain ⟨c0_0, c0_1, c0_2⟩ := S.c3 0 rfl
  go_enter Tryz.func59, Tryz.ntmps59
  go_wp2_with fail; clear c0_0 c0_1 c0_2
  refine (S.call (wsign_any ⟨p, l, K, by rw [hb.out], n1⟩ HD.out.1 HD.out.2)).mono ?_
  clear S
  rintro e w1 ⟨rfl, S, H⟩
  replace n1 := n1.hold H; clear H; obtain ⟨c0_0, c0_1, c0_2⟩ := S.c3 0 rfl; go_wp2_with fail
  exact bodyPost_ret (v := .int .i64 s) (by simp [results, Tryz.f59, go_sem]) rfl (⟨rfl, S.below⟩)
end Go.Proofs.YtfnlmiajpledfaaGreatDoor
