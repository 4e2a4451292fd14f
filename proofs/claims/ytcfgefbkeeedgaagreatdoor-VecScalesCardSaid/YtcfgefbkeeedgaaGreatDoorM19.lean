/-
  What the statement stands on.
-/
import Derived.Test.YtcfgefbkeeedgaaGreatDoorM07
import Derived.Test.YtcfgefbkeeedgaaGreatDoorM18
import Derived.WalkSpells
namespace Go.Proofs.YtcfgefbkeeedgaaGreatDoor
open Go.RowKit
def IsRat (w : World) (v : Value) (q : Rat) : Prop := ∃ b p l K p' l' K', v = .agg #[.bool b, .slice p l K, .slice p' l' K'] ∧ Hid (negB q.num = b) ∧ IsNat w (.slice p l K) q.num.natAbs ∧ IsNat w (.slice p' l' K') q.den
theorem IsRat.hold {w w' : World} {v : Value} {q : Rat} (h : Hold w w') : IsRat w v q → IsRat w' v q
  | ⟨b, p, l, K, p', l', K', e, hb, n, d⟩ => ⟨b, p, l, K, p', l', K', e, hb, n.hold h, d.hold h⟩
instance hdI9 {w w' : World} {v : Value} {q : Rat} : Hd w w' (IsRat w v q) (IsRat w' v q) := ⟨IsRat.hold⟩
theorem IsRat.below {B : Nat} {w w' : World} {v : Value} {q : Rat} (hb : Below B w w') (hB : w.heap.size ≤ B) : IsRat w v q → IsRat w' v q
  | ⟨b, p, l, K, p', l', K', e, h, n, d⟩ => ⟨b, p, l, K, p', l', K', e, h, n.below hb hB, d.below hb hB⟩
def RB (q : Rat) (k : Nat) : Prop := q.num.natAbs < NB k ∧ q.den < NB k
theorem RB.mono {q : Rat} {a b : Nat} (h : RB q a) (hk : a ≤ b) : RB q b := ⟨nb_mono h.1 hk, nb_mono h.2 hk⟩
section
variable {ops : Array Oper} {rest : List Oper} {o : Oper} {a : Act} {Q : Exit → Act → World → Prop} {w : World}
theorem append_clone (hg : o.guard = none) (s x : Operand) (ho : o.op = .call { callee := .builtin .append, args := #[s, x], argTypes := #[23, 23] }) (w1 : World) (hw : w = w1.alloc (.cells #[] 136)) (hs : a.eval s = .slice (some ⟨w1.heap.size, 0, none⟩) 0 0)
    (n : Nat) (u : Value) (hx : a.eval x = u) (hn : IsNat w u n) (hm : n < maxN)
    (hK : ∀ v' w', IsNat w' v' n → Below w1.heap.size w1 w' → wpList Tryz.prog ops Q rest (a.put o.dst v') w') :
    wpList Tryz.prog ops Q (o :: rest) a w := by
  subst hw
  obtain ⟨ds, ⟨p, K, rfl, hat⟩, hc, hv⟩ := hn
  have hl : ds.length ≤ 512 := hc.len_max.2 (by rw [hv]; exact hm)
  obtain ⟨i0, hi, hz0, hz1, hz2⟩ := info_parts info_u32
  have hown : Own .u32 136 (w1.alloc (.cells #[] 136)) w1.heap.size (.slice (some ⟨w1.heap.size, 0, none⟩) 0 0) [] := Own.made (q := .u32) (t := 136) w1 w1.heap.size 0 [] (Nat.le_refl _) rfl (by simp)
  exact append_list hg 23 136 .u32 i0 4 Tryz.underlying23 hi hz0 hz1 hz2 (by decide) s x ho w1.heap.size _ [] ds hs hown p K ds.length rfl hx hat (by simp; omega) (by simp) w1.heap.size w1 ((Below.refl _ w1).alloc (Nat.le_refl _) _) (Nat.le_refl _) fun v' w' h1 h2 _ => hK v' w' ⟨ds, h1.nums, hc, hv⟩ h2
end
set_option maxRecDepth 100000 in
set_option maxHeartbeats 1000000 in
theorem clone_any {v : Value} {n : Nat} {w : World} (h : IsNat w v n) (hm : n < maxN) :
    Calls Tryz.prog 103 #[v] w fun e w' => (∃ u, e = .returned u ∧ IsNat w' u n) ∧ Below w.heap.size w w' := by
  obtain ⟨p, l, K, rfl⟩ := h.form
  have HN := Lib.hid (And.intro h hm)
  have hnil := fun (w : World) (a : Option Addr) (n c n' c' : Nat) => Lib.run_eql_slice_nil (P := Tryz.prog) w 23 136 a n c n' c' Tryz.underlying23
  cases p with
  | none =>
    obtain ⟨rfl, rfl⟩ : l = 0 ∧ K = 0 := by
      obtain ⟨ds, ⟨p', K', e, hat⟩, _⟩ := h
      have e1 : p' = none := by cases e; rfl
      subst e1
      rcases hat with ⟨rfl, h0⟩ | ⟨b, o, h1, _⟩
      · cases e; exact ⟨rfl, h0 rfl⟩
      · cases h1
    clear h hm
    go_enter Tryz.func103, Tryz.ntmps103
    go_wp2
    go_ret
    exact ⟨⟨_, rfl, HN.out.1⟩, Below.refl _ _⟩
  | some a =>
    clear h hm
    go_enter Tryz.func103, Tryz.ntmps103
    go_wp2_with (at_builtin; refine append_clone rfl (.tmp 5) (.tmp 6) rfl w rfl rfl n _ rfl (HN.out.1.below ((Below.refl _ w).alloc (Nat.le_refl _) _) (Nat.le_refl _)) HN.out.2 (fun v' w' hn' hB' => ?_))
    obtain ⟨p2, l2, K2, rfl⟩ := hn'.form
    have HV := Lib.hid hn'
    clear hn'; go_wp2_with fail
    exact bodyPost_ret (v := .slice p2 l2 K2) (by simp [results, Tryz.f103, go_sem]) rfl ⟨⟨_, rfl, HV.out⟩, hB'⟩
set_option maxRecDepth 100000 in
set_option maxHeartbeats 2000000 in
theorem rwhole_any {va : Value} {x : Int} {w : World} (ha : IsInt w va x) (hx : x.natAbs < maxN) (q : Rat) (hq : q = (x : Rat)) :
    Calls Tryz.prog 94 #[va] w fun e w' => (∃ u, e = .returned u ∧ IsRat w' u q) ∧ Below w.heap.size w w' := by
  obtain ⟨p1, l1, K1, rfl, n1⟩ := ha
  obtain ⟨b1, hb1⟩ : ∃ b1, negB x = b1 := ⟨_, rfl⟩
  rw [hb1]
  have HD := Lib.hid (And.intro hb1 (And.intro hx hq))
  clear hb1 hx hq
  have S := ((St.start w).alloc 25 [.bool b1, .slice p1 l1 K1] (w.heap.size)).alloc 34 [.bool false, .slice none 0 0, .slice none 0 0] (w.heap.size + 1)
  try simp only [List.cons_append, List.nil_append] at S
  replace n1 := n1.hold S.hold
  have c0_0 := S.c 0 0 rfl rfl; have c0_1 := S.c 0 1 rfl rfl; obtain ⟨c1_0, c1_1, c1_2⟩ := S.c3 1 rfl
  go_enter Tryz.func94, Tryz.ntmps94
  go_upto_region 1 with fail
  clear c0_0 c0_1 c1_0 c1_1 c1_2
  generalize ((w.alloc (.cells #[.bool b1, .slice p1 l1 K1] 25)).alloc (.cells #[.bool false, .slice none 0 0, .slice none 0 0] 34)) = w1 at S n1 ⊢
  go_cut [3] (fun s3 wx => ∃ g3 p l K, s3 = .pointer (some ⟨g3, 0, none⟩) ∧ St w wx [(w.heap.size, 25, [.bool b1, .slice p1 l1 K1]), (w.heap.size + 1, 34, [.bool false, .slice none 0 0, .slice none 0 0]), (g3, 25, [.bool b1, .slice p l K])] ∧ IsNat wx (.slice p l K) x.natAbs ∧ Hold w1 wx)
  case first =>
    have HH := Hold.drew w1
    replace n1 := n1.hold HH
    replace S := S.drew
    refine wp_region_held_drew (S := fun W => W.cell? ⟨w.heap.size, 0, none⟩ = some (.bool b1) ∧ W.cell? ⟨w.heap.size, 1, none⟩ = some (.slice p1 l1 K1)) (by kernel_rfl) ⟨(S.c 0 0 rfl rfl), (S.c 0 1 rfl rfl)⟩ (fun hS => ?_)
    generalize w1.drew = w2 at S n1 HH hS ⊢
    refine tk 0 hS ?_
    refine tk 1 hS ?_
    refine tk 2 hS ?_
    refine tk 3 hS ?_
    refine wpAnyH_ready (rs := [4, 6]) (by kernel_rfl) (by simp) (AllReadyH.cons (opOf rfl) (fun KK hKK => ?_) (AllReadyH.cons (opOf rfl) (fun KK hKK => ?_) AllReadyH.nil))
    ·
      go_simp; clear hS
      refine (S.call (clone_any n1 HD.out.2.1)).mono ?_
      clear S
      rintro e w3 ⟨⟨_, rfl, nv⟩, S, H⟩
      replace n1 := n1.hold H; replace HH := HH.trans H; clear H
      obtain ⟨p, l, K, rfl⟩ := nv.form
      go_wp2_with fail
      refine ho hKK ⟨(S.c 0 0 rfl rfl), (S.c 0 1 rfl rfl)⟩ fun hS => ?_
      clear hKK KK
      refine tk 5 hS ?_
      refine rd 6 fun KK hKK => ?_
      go_simp; clear hS
      have H := S.hnew 25 [.bool false, .slice none 0 0]
      replace S := S.al 25 [.bool false, .slice none 0 0] (w3.heap.size)
      replace n1 := n1.hold H; replace nv := nv.hold H; replace HH := HH.trans H; clear H
      refine ho hKK ⟨(S.c 0 0 rfl rfl), (S.c 0 1 rfl rfl)⟩ fun hS => ?_
      generalize (w3.alloc (.cells #[.bool false, .slice none 0 0] 25)) = w4 at S n1 nv HH hS ⊢
      clear hKK KK
      refine rd 7 fun KK hKK => ?_
      have c0 := S.c 2 0 rfl rfl; have f0 := S.f 2 0 rfl; have c1 := S.c 2 1 rfl rfl; have f1 := S.f 2 1 rfl; go_simp; clear hS c0 f0 c1 f1
      have H := S.hset 2 0 (.bool b1) rfl rfl (by intro q n e; cases e)
      replace S := S.set 2 0 (.bool b1) rfl
      replace n1 := n1.hold H; replace nv := nv.hold H; replace HH := HH.trans H; clear H
      have H := S.hset 2 1 (.slice p l K) rfl rfl (by intro q n e; cases e)
      replace S := S.set 2 1 (.slice p l K) rfl
      replace n1 := n1.hold H; replace nv := nv.hold H; replace HH := HH.trans H; clear H
      refine ho hKK ⟨(S.c 0 0 rfl rfl), (S.c 0 1 rfl rfl)⟩ fun hS => ?_
      generalize ((w4.setCell ⟨w3.heap.size, 0, none⟩ (.bool b1)).setCell ⟨w3.heap.size, 1, none⟩ (.slice p l K)) = w5 at S n1 nv HH hS ⊢
      clear hKK KK
      refine wpAnyH_done (by kernel_rfl) ?_ _
      go_wp2_with fail
      go_meet
      case rel => exact ⟨w3.heap.size, p, l, K, rfl, S, nv, HH⟩
    ·
      go_simp; clear hS
      have H := S.hnew 25 [.bool false, .slice none 0 0]
      replace S := S.al 25 [.bool false, .slice none 0 0] (w2.heap.size)
      replace n1 := n1.hold H; replace HH := HH.trans H; clear H
      refine ho hKK ⟨(S.c 0 0 rfl rfl), (S.c 0 1 rfl rfl)⟩ fun hS => ?_
      generalize (w2.alloc (.cells #[.bool false, .slice none 0 0] 25)) = w6 at S n1 HH hS ⊢
      clear hKK KK
      refine rd 4 fun KK hKK => ?_
      go_simp; clear hS
      refine (S.call (clone_any n1 HD.out.2.1)).mono ?_
      clear S
      rintro e w7 ⟨⟨_, rfl, nv⟩, S, H⟩
      replace n1 := n1.hold H; replace HH := HH.trans H; clear H
      obtain ⟨p, l, K, rfl⟩ := nv.form
      go_wp2_with fail
      refine ho hKK ⟨(S.c 0 0 rfl rfl), (S.c 0 1 rfl rfl)⟩ fun hS => ?_
      clear hKK KK
      refine tk 5 hS ?_
      refine rd 7 fun KK hKK => ?_
      have c0 := S.c 2 0 rfl rfl; have f0 := S.f 2 0 rfl; have c1 := S.c 2 1 rfl rfl; have f1 := S.f 2 1 rfl; go_simp; clear hS c0 f0 c1 f1
      have H := S.hset 2 0 (.bool b1) rfl rfl (by intro q n e; cases e)
      replace S := S.set 2 0 (.bool b1) rfl
      replace n1 := n1.hold H; replace nv := nv.hold H; replace HH := HH.trans H; clear H
      have H := S.hset 2 1 (.slice p l K) rfl rfl (by intro q n e; cases e)
      replace S := S.set 2 1 (.slice p l K) rfl
      replace n1 := n1.hold H; replace nv := nv.hold H; replace HH := HH.trans H; clear H
      refine ho hKK ⟨(S.c 0 0 rfl rfl), (S.c 0 1 rfl rfl)⟩ fun hS => ?_
      generalize ((w7.setCell ⟨w2.heap.size, 0, none⟩ (.bool b1)).setCell ⟨w2.heap.size, 1, none⟩ (.slice p l K)) = w8 at S n1 nv HH hS ⊢
      clear hKK KK
      refine wpAnyH_done (by kernel_rfl) ?_ _
      go_wp2_with fail
      go_meet
      case rel => exact ⟨w2.heap.size, p, l, K, rfl, S, nv, HH⟩
  case rest =>
    obtain ⟨g3, p, l, K, rfl, S, nv, HH⟩ := hcut
    obtain ⟨w9, rfl⟩ : ∃ W : World, W = wc := ⟨_, rfl⟩
    replace n1 := n1.hold HH; clear HH; have c0_0 := S.c 0 0 rfl rfl; have c0_1 := S.c 0 1 rfl rfl; obtain ⟨c1_0, c1_1, c1_2⟩ := S.c3 1 rfl; have c2_0 := S.c 2 0 rfl rfl; have c2_1 := S.c 2 1 rfl rfl
    go_upto_region 2 with fail
    clear c0_0 c0_1 c1_0 c1_1 c1_2 c2_0 c2_1
    have HH := Hold.drew w9
    replace n1 := n1.hold HH; replace nv := nv.hold HH
    replace S := S.drew
    refine wp_region_held_drew (S := fun W => W.cell? ⟨g3, 0, none⟩ = some (.bool b1) ∧ W.cell? ⟨g3, 1, none⟩ = some (.slice p l K)) (by kernel_rfl) ⟨(S.c 2 0 rfl rfl), (S.c 2 1 rfl rfl)⟩ (fun hS => ?_)
    generalize w9.drew = w10 at S n1 nv HH hS ⊢
    refine tk 0 hS ?_
    refine rd 1 fun KK hKK => ?_
    go_simp; clear hS
    refine (S.call (of_any 1 _ (by decide))).mono ?_
    clear S
    rintro e w11 ⟨⟨_, rfl, no⟩, S, H⟩
    replace n1 := n1.hold H; replace nv := nv.hold H; replace HH := HH.trans H; clear H
    obtain ⟨pd, ld, Kd, rfl⟩ := no.form
    go_wp2_with fail
    refine ho hKK ⟨(S.c 2 0 rfl rfl), (S.c 2 1 rfl rfl)⟩ fun hS => ?_
    clear hKK KK
    refine tk 2 hS ?_
    refine rd 3 fun KK hKK => ?_
    obtain ⟨c0, c1, c2⟩ := S.c3 1 rfl; obtain ⟨f0, f1, f2⟩ := S.f3 1 rfl
    go_simp; clear hS c0 f0 c1 f1 c2 f2
    have HP := S.putq 1 (.bool b1) (.slice p l K) (.slice pd ld Kd) rfl rfl; have H := HP.2; replace S := HP.1; clear HP
    refine iv3 H n1 nv no ?_; clear n1 nv no; intro n1 nv no; replace HH := HH.trans H; clear H
    refine ho hKK ⟨(S.c 2 0 rfl rfl), (S.c 2 1 rfl rfl)⟩ fun hS => ?_
    generalize (((w11.setCell ⟨w.heap.size + 1, 0, none⟩ (.bool b1)).setCell ⟨w.heap.size + 1, 1, none⟩ (.slice p l K)).setCell ⟨w.heap.size + 1, 2, none⟩ (.slice pd ld Kd)) = w12 at S n1 nv no HH hS ⊢
    clear hKK KK
    refine wpAnyH_done (by kernel_rfl) ?_ _
    clear hS HH; have c0_0 := S.c 0 0 rfl rfl; have c0_1 := S.c 0 1 rfl rfl; obtain ⟨c1_0, c1_1, c1_2⟩ := S.c3 1 rfl; have c2_0 := S.c 2 0 rfl rfl; have c2_1 := S.c 2 1 rfl rfl; go_wp2_with fail; obtain ⟨d1_0, d1_1, d1_2⟩ := S.c3 1 rfl
    exact bodyPost_ret (v := .agg #[.bool b1, .slice p l K, .slice pd ld Kd]) (by simp [results, Tryz.f94, go_sem, d1_0, d1_1, d1_2]) rfl (⟨⟨_, rfl, b1, p, l, K, pd, ld, Kd, rfl, by rw [HD.out.2.2]; exact HD.out.1, by rw [HD.out.2.2]; exact nv, by rw [HD.out.2.2]; exact no⟩, S.below⟩)
theorem IsInt.zero (w : World) : IsInt w (.agg #[.bool false, .slice none 0 0]) 0 := ⟨none, 0, 0, rfl, ⟨[], .nil _ _, Can.nil _, rfl⟩⟩
set_option maxRecDepth 100000 in
set_option maxHeartbeats 1000000 in
theorem rzero_any (w : World) : Calls Tryz.prog 41 #[] w fun e w' => (∃ u, e = .returned u ∧ IsRat w' u 0) ∧ Below w.heap.size w w' := by
  have HM := Lib.hid (lt_maxN (m := 0) (by decide))
  have S := (St.start w).alloc 34 [.bool false, .slice none 0 0, .slice none 0 0] (w.heap.size)
  try simp only [List.nil_append] at S
  obtain ⟨c0_0, c0_1, c0_2⟩ := S.c3 0 rfl
  go_enter Tryz.func41, Tryz.ntmps41
  go_wp2_with fail; clear c0_0 c0_1 c0_2
  refine (S.call (rwhole_any (IsInt.zero _) HM.out 0 rfl)).mono ?_
  clear S
  rintro e w1 ⟨⟨_, rfl, b, p, l, K, pd, ld, Kd, rfl, hb, nn, nd⟩, S, H⟩
  clear H; obtain ⟨c0_0, c0_1, c0_2⟩ := S.c3 0 rfl
  obtain ⟨f0_0, f0_1, f0_2⟩ := S.f3 0 rfl
  have HP := S.putq 0 (.bool b) (.slice p l K) (.slice pd ld Kd) rfl rfl; have H := HP.2; replace S := HP.1; clear HP
  replace nn := nn.hold H; replace nd := nd.hold H
  clear H; go_wp2_with fail; obtain ⟨d0_0, d0_1, d0_2⟩ := S.c3 0 rfl
  exact bodyPost_ret (v := .agg #[.bool b, .slice p l K, .slice pd ld Kd]) (by simp [results, Tryz.f41, go_sem, d0_0, d0_1, d0_2]) rfl (⟨⟨_, rfl, b, p, l, K, pd, ld, Kd, rfl, hb, nn, nd⟩, S.below⟩)
set_option maxRecDepth 100000 in
set_option maxHeartbeats 1000000 in
theorem rsign_any {va : Value} {x : Rat} {w : World} (ha : IsRat w va x) (hx : x.num.natAbs < maxN) {s : Int} (hs : x.num.sign = s) :
    Calls Tryz.prog 54 #[va] w fun e w' => e = .returned (.int .i64 s) ∧ Below w.heap.size w w' := by
  obtain ⟨b, p, l, K, p', l', K', rfl, hb, n1, d1⟩ := ha
  have HD := Lib.hid (And.intro hx hs)
  clear hx hs
  have S := (St.start w).alloc 34 [.bool b, .slice p l K, .slice p' l' K'] (w.heap.size)
  try simp only [List.nil_append] at S
  replace n1 := n1.hold S.hold
  obtain ⟨c0_0, c0_1, c0_2⟩ := S.c3 0 rfl
  go_enter Tryz.func54, Tryz.ntmps54
  go_wp2_with fail; clear c0_0 c0_1 c0_2
  refine (S.call (wsign_any ⟨p, l, K, by rw [hb.out], n1⟩ HD.out.1 HD.out.2)).mono ?_
  clear S
  rintro e w1 ⟨rfl, S, H⟩
  replace n1 := n1.hold H; clear H; obtain ⟨c0_0, c0_1, c0_2⟩ := S.c3 0 rfl; go_wp2_with fail
  exact bodyPost_ret (v := .int .i64 s) (by simp [results, Tryz.f54, go_sem]) rfl (⟨rfl, S.below⟩)
theorem RL.snoc {w : World} {vs : List Value} {qs : List Rat} {v0 v1 v2 : Value} {q : Rat} (h : RL w vs qs) (h1 : RatV w v0 v1 v2 q) : RL w (vs ++ [v0, v1, v2]) (qs ++ [q]) := h.app ⟨h1, trivial⟩
def FreshR (w w' : World) (v : Value) (qs : List Rat) : Prop := ∃ g vs, v = .slice (some ⟨g, 0, none⟩) qs.length qs.length ∧ w.heap.size ≤ g ∧ w'.heap[g]? = some (.cells vs.toArray 34 (0, 0)) ∧ RL w' vs qs
set_option maxRecDepth 100000 in
set_option maxHeartbeats 4000000 in
theorem vzero_any (n : Nat) (hn : n ≤ 16) (w : World) :
    Calls Tryz.prog 42 #[.int .i64 n] w fun e w' => (∃ v, e = .returned v ∧ FreshR w w' v (List.replicate n 0)) ∧ Below w.heap.size w w' := by
  have m1 : max ((n : Nat) : Int) 0 = n := by omega
  have m2 : min ((n : Nat) : Int) 16 = n := by omega
  have S := St.start w
  go_enter Tryz.func42, Tryz.ntmps42
  go_upto_region 2 with (at_make; refine make_rats S rfl _ _ rfl _ _ n rfl rfl ?hL ?hC ?hn (fun w3 S3 hB3 => ?_))
  case hL => simp
  case hC => simp
  case hn => omega
  simp only [List.nil_append] at S3
  replace S := S3
  clear S3 hB3; go_wp2_with fail
  go_loopw [11] (fun si wr => ∃ k : Nat, k ≤ n ∧ si = .int .i64 k ∧ ∃ vs, RL wr vs (List.replicate k 0) ∧ St w wr [(w.heap.size, 34, vs ++ zr3 (n - k))]) (fun si _ => n - (intOf si).toNat)
  case atStart => exact ⟨0, by omega, rfl, [], trivial, S⟩
  case round =>
    clear S
    obtain ⟨k, hk, rfl, vs, hv, S⟩ := hrel
    by_cases hlt : k < n
    · obtain ⟨r, hr⟩ : ∃ r, n - k = r + 1 := ⟨n - k - 1, by omega⟩
      rw [hr] at S
      have hl : vs.length = k * 3 := by simpa using hv.len
      have HQ := Lib.hid (And.intro hl (And.intro hlt hr))
      have hki : (k : Int) < ((n : Nat) : Int) := by omega
      clear hr hlt hl hk; go_wp2_with fail
      refine (S.call (rzero_any _)).mono ?_
      rintro e w1 ⟨⟨_, rfl, b, p1, l1, K1, p2, l2, K2, rfl, hs, n1, n2⟩, S', H⟩
      replace hv := hv.hold H; clear S H
      have f0 := S'.f 0 (k * 3) rfl
      have f1 := S'.f 0 (k * 3 + 1) rfl
      have f2 := S'.f 0 (k * 3 + 2) rfl
      obtain ⟨S, H⟩ := S'.putAt 0 (.bool b) (.slice p1 l1 K1) (.slice p2 l2 K2) rfl HQ.out.1
      have g0 := S'.c 0 (k * 3) rfl (v := .bool false) (by rw [← HQ.out.1]; simp [zr3])
      have g1 := S'.c 0 (k * 3 + 1) rfl (v := .slice none 0 0) (by rw [← HQ.out.1, List.getElem?_append_right (by omega)]; simp [zr3])
      have g2 := S'.c 0 (k * 3 + 2) rfl (v := .slice none 0 0) (by rw [← HQ.out.1, List.getElem?_append_right (by omega)]; simp [zr3])
      clear S'
      go_upto_region 6 with fail
      have hv2 := (hv.hold H).snoc (q := 0) ⟨b, p1, l1, K1, p2, l2, K2, rfl, rfl, rfl, hs, n1.hold H, n2.hold H⟩
      clear hv H hs n1 n2 g0 g1 g2 f0 f1 f2; go_wp2_with fail
      go_roundw
      case rel => exact ⟨k + 1, HQ.out.2.1, by go_num, _, by rw [List.replicate_succ']; exact hv2, by rw [show n - (k + 1) = r by have := HQ.out.2.2; omega]; exact S⟩
      case measure => have := HQ.out.2.1; simp [intOf]; omega
    · have hki : ¬ (k : Int) < ((n : Nat) : Int) := by omega
      have hkn : k = n := by omega
      subst hkn
      rw [Nat.sub_self] at S
      simp only [zr3, List.append_nil] at S
      clear hlt hk; go_wp2_with fail
      exact bodyPost_ret (v := .slice (some ⟨w.heap.size, 0, none⟩) k k) (by simp [results, Tryz.f42, go_sem]) rfl (⟨⟨_, rfl, _, vs, by rw [List.length_replicate], Nat.le_refl _, (S.locs.get 0 rfl).2, hv⟩, S.below⟩)
theorem FreshR.from {w W w' : World} {v : Value} {qs : List Rat} (h : FreshR W w' v qs) (hl : w.heap.size ≤ W.heap.size) : FreshR w w' v qs := by
  obtain ⟨g, vs, e, hg, hh, hr⟩ := h
  exact ⟨g, vs, e, Nat.le_trans hl hg, hh, hr⟩
theorem FreshR.hold {w W W' : World} {v : Value} {qs : List Rat} (h : FreshR w W v qs) (hB : Below W.heap.size W W') : FreshR w W' v qs := by
  obtain ⟨g, vs, e, hg, hh, hr⟩ := h
  exact ⟨g, vs, e, hg, (hB.block g (lt_of_heap hh)).trans hh, hr.hold (Hold.of_below hB)⟩
theorem FreshR.rats {w W : World} {v : Value} {qs : List Rat} (h : FreshR w W v qs) : Rats W v qs := by
  obtain ⟨g, vs, e, hg, hh, hr⟩ := h
  subst e
  exact .row (lt_of_heap hh) (Nat.le_refl _) (.of_heap hh) hr
theorem zip_snoc {F : Rat → Rat → Rat} : ∀ {xs ys : List Rat} {k : Nat} {x y : Rat}, xs[k]? = some x → ys[k]? = some y → (List.zipWith F xs ys).take (k + 1) = (List.zipWith F xs ys).take k ++ [F x y]
  | [], _, _, _, _, h, _ => by simp at h
  | _ :: _, [], _, _, _, _, h => by simp at h
  | a :: xs, b :: ys, 0, x, y, h1, h2 => by simp at h1 h2; subst h1 h2; simp
  | a :: xs, b :: ys, k + 1, x, y, h1, h2 => by
    have := zip_snoc (F := F) (xs := xs) (ys := ys) (k := k) (by simpa using h1) (by simpa using h2)
    simp [this]
set_option maxRecDepth 100000 in
set_option maxHeartbeats 4000000 in
theorem vpair_any {va vb : Value} {xs ys : List Rat} {w : World} (ha : Rats w va xs) (hb : Rats w vb ys) (n : Nat) (hla : xs.length = n) (hlb : ys.length = n) (hn : n ≤ 1000000) (fid : FuncId) (F : Rat → Rat → Rat) (hcf : ∀ (u v : Value) (W : World), Sem.run Tryz.prog (callFunc fid #[u, v]) W = .ok (.enter fid #[u, v]) W)
    (hf : ∀ (W : World) (u v : Value) (k : Nat) (x y : Rat), xs[k]? = some x → ys[k]? = some y → IsRat W u x → IsRat W v y → Calls Tryz.prog fid #[u, v] W fun e w' => (∃ r, e = .returned (.tuple #[r, .int .i64 0]) ∧ IsRat w' r (F x y)) ∧ Below W.heap.size W w') :
    Calls Tryz.prog 86 #[va, vb, .func (.func fid) #[] #[]] w fun e w' => (∃ v, e = .returned (.tuple #[v, .int .i64 0]) ∧ FreshR w w' v (List.zipWith F xs ys)) ∧ Below w.heap.size w w' := by
  have hz : (List.zipWith F xs ys).length = n := by simp [hla, hlb]
  obtain ⟨pa, ca, rfl⟩ := ha.form
  obtain ⟨pb, cb, rfl⟩ := hb.form
  rw [hla] at ha ⊢
  rw [hlb] at hb ⊢
  have HI := Lib.hid (And.intro ha (And.intro hb (And.intro hf (And.intro hz hn))))
  clear ha hb hf hz
  have S := St.start w
  go_enter Tryz.func86, Tryz.ntmps86
  go_upto_region 4 with (at_make; refine make_rats S rfl _ _ rfl _ _ n rfl rfl ?hL ?hC ?hn (fun w3 S3 hB3 => ?_))
  case hL => rfl
  case hC => rfl
  case hn => omega
  simp only [List.nil_append] at S3
  replace S := S3
  clear S3 hB3; go_wp2_with fail
  go_loopw [22] (fun si wr => ∃ k : Nat, k ≤ n ∧ si = .int .i64 k ∧ ∃ vs, RL wr vs ((List.zipWith F xs ys).take k) ∧ St w wr [(w.heap.size, 34, vs ++ zr3 (n - k))]) (fun si _ => n - (intOf si).toNat)
  case atStart => exact ⟨0, by omega, rfl, [], trivial, S⟩
  case round =>
    clear S
    obtain ⟨k, hk, rfl, vs, hv, S⟩ := hrel
    by_cases hlt : k < n
    · obtain ⟨r, hr⟩ : ∃ r, n - k = r + 1 := ⟨n - k - 1, by omega⟩
      rw [hr] at S
      have hl : vs.length = k * 3 := by rw [hv.len, List.length_take, HI.out.2.2.2.1]; omega
      obtain ⟨ga, oa, x, v0, v1, v2, rfl, hga, hqa, a0, a1, a2, b1, p1, l1, K1, p2, l2, K2, rfl, rfl, rfl, hs1, n1, n2⟩ := HI.out.1.get hlt
      obtain ⟨gb, ob, y, v0, v1, v2, rfl, hgb, hqb, c0, c1, c2, b2, q1, j1, J1, q2, j2, J2, rfl, rfl, rfl, hs2, n3, n4⟩ := HI.out.2.1.get hlt
      replace a0 := (S.below.cell (p := ⟨ga, oa + k * 3, none⟩) hga).trans a0
      replace a1 := (S.below.cell (p := ⟨ga, oa + k * 3 + 1, none⟩) hga).trans a1
      replace a2 := (S.below.cell (p := ⟨ga, oa + k * 3 + 2, none⟩) hga).trans a2
      have HC := Lib.hid (And.intro hgb (And.intro c0 (And.intro c1 c2)))
      clear c0 c1 c2
      have HQ := Lib.hid (And.intro hl (And.intro hlt (And.intro hr (And.intro hqa (And.intro hqb hgb)))))
      have hki : (k : Int) < ((n : Nat) : Int) := by omega
      replace n1 := n1.below S.below (Nat.le_refl _)
      replace n2 := n2.below S.below (Nat.le_refl _)
      replace n3 := n3.below S.below (Nat.le_refl _)
      replace n4 := n4.below S.below (Nat.le_refl _)
      clear hr hlt hl hk hqa hqb hga hgb
      go_upto_region 8 with fail
      have H := S.hnew 34 [.bool b1, .slice p1 l1 K1, .slice p2 l2 K2]
      replace S := S.alloc 34 [.bool b1, .slice p1 l1 K1, .slice p2 l2 K2] (wr.heap.size)
      simp only [List.cons_append, List.nil_append] at S
      refine iv5 H hv n1 n2 n3 n4 ?_; clear hv n1 n2 n3 n4; intro hv n1 n2 n3 n4
      clear H a0 a1 a2
      generalize (wr.alloc (.cells #[.bool b1, .slice p1 l1 K1, .slice p2 l2 K2] 34)) = w1 at S hv n1 n2 n3 n4 ⊢
      have H := Hold.drew w1
      refine iv5 H hv n1 n2 n3 n4 ?_; clear hv n1 n2 n3 n4; intro hv n1 n2 n3 n4
      clear H
      replace S := S.drew
      generalize hgx : wr.heap.size = gx at S ⊢
      clear hgx
      refine wp_region_held_drew (S := fun W => W.cell? ⟨gb, ob + k * 3, none⟩ = some (.bool b2) ∧ W.cell? ⟨gb, ob + k * 3 + 1, none⟩ = some (.slice q1 j1 J1) ∧ W.cell? ⟨gb, ob + k * 3 + 2, none⟩ = some (.slice q2 j2 J2) ∧ W.cell? ⟨gx, 0, none⟩ = some (.bool b1) ∧ W.cell? ⟨gx, 1, none⟩ = some (.slice p1 l1 K1) ∧ W.cell? ⟨gx, 2, none⟩ = some (.slice p2 l2 K2)) (by kernel_rfl) ⟨(S.below.cell (p := ⟨gb, ob + k * 3, none⟩) HC.out.1).trans HC.out.2.1, (S.below.cell (p := ⟨gb, ob + k * 3 + 1, none⟩) HC.out.1).trans HC.out.2.2.1, (S.below.cell (p := ⟨gb, ob + k * 3 + 2, none⟩) HC.out.1).trans HC.out.2.2.2, S.c3 1 rfl⟩ (fun hS => ?_)
      generalize w1.drew = w2 at S hv n1 n2 n3 n4 hS ⊢
      refine tk 0 hS ?_
      refine tk 1 hS ?_
      refine tk 2 hS ?_
      refine tk 3 hS ?_
      refine tk 4 hS ?_
      refine tk 5 hS ?_
      refine tk 6 hS ?_
      refine tk 7 hS ?_
      refine rd 8 fun KK hKK => ?_
      go_simp; clear hS
      refine (S.call (HI.out.2.2.1 _ _ _ k x y HQ.out.2.2.2.1 HQ.out.2.2.2.2.1 ⟨b1, p1, l1, K1, p2, l2, K2, rfl, hs1, n1, n2⟩ ⟨b2, q1, j1, J1, q2, j2, J2, rfl, hs2, n3, n4⟩)).mono ?_
      clear S
      rintro e w4 ⟨⟨_, rfl, b3, p3, l3, K3, p4, l4, K4, rfl, hs3, n5, n6⟩, S, H⟩
      replace hv := hv.hold H; clear H n1 n2 n3 n4 hs1 hs2; go_wp2_with fail
      refine ho hKK ⟨(S.below.cell (p := ⟨gb, ob + k * 3, none⟩) HC.out.1).trans HC.out.2.1, (S.below.cell (p := ⟨gb, ob + k * 3 + 1, none⟩) HC.out.1).trans HC.out.2.2.1, (S.below.cell (p := ⟨gb, ob + k * 3 + 2, none⟩) HC.out.1).trans HC.out.2.2.2, S.c3 1 rfl⟩ fun hS => ?_
      clear hKK KK
      refine tk 9 hS ?_
      refine tk 10 hS ?_
      refine tk 11 hS ?_
      refine rd 12 fun KK hKK => ?_
      go_simp
      refine ho hKK hS fun hS => ?_
      clear hKK KK
      refine rd 13 fun KK hKK => ?_
      have f0 := S.f 0 (k * 3) rfl
      have f1 := S.f 0 (k * 3 + 1) rfl
      have f2 := S.f 0 (k * 3 + 2) rfl
      obtain ⟨S2, H⟩ := S.putAt 0 (.bool b3) (.slice p3 l3 K3) (.slice p4 l4 K4) rfl HQ.out.1
      have g0 := S.c 0 (k * 3) rfl (v := .bool false) (by rw [← HQ.out.1]; simp [zr3])
      have g1 := S.c 0 (k * 3 + 1) rfl (v := .slice none 0 0) (by rw [← HQ.out.1, List.getElem?_append_right (by omega)]; simp [zr3])
      have g2 := S.c 0 (k * 3 + 2) rfl (v := .slice none 0 0) (by rw [← HQ.out.1, List.getElem?_append_right (by omega)]; simp [zr3])
      clear hS; go_simp; clear S f0 f1 f2 g0 g1 g2
      replace S := S2
      clear S2
      simp only [List.set_cons_zero] at S
      refine ho hKK ⟨(S.below.cell (p := ⟨gb, ob + k * 3, none⟩) HC.out.1).trans HC.out.2.1, (S.below.cell (p := ⟨gb, ob + k * 3 + 1, none⟩) HC.out.1).trans HC.out.2.2.1, (S.below.cell (p := ⟨gb, ob + k * 3 + 2, none⟩) HC.out.1).trans HC.out.2.2.2, S.c3 1 rfl⟩ fun hS => ?_
      clear hKK KK
      refine rd 14 fun KK hKK => ?_
      go_simp
      refine ho hKK hS fun hS => ?_
      clear hKK KK
      refine wpAnyH_done (by kernel_rfl) ?_ _
      have hv2 := (hv.hold H).snoc (q := F x y) ⟨b3, p3, l3, K3, p4, l4, K4, rfl, rfl, rfl, hs3, n5.hold H, n6.hold H⟩
      clear hv H hs3 n5 n6 hS
      replace S := S.take 1 rfl
      go_wp2_with fail
      go_roundw
      case rel => exact ⟨k + 1, HQ.out.2.1, by go_num, _, by rw [zip_snoc HQ.out.2.2.2.1 HQ.out.2.2.2.2.1]; exact hv2, by rw [show n - (k + 1) = r by have := HQ.out.2.2.1; omega]; exact S⟩
      case measure => have := HQ.out.2.1; simp [intOf]; omega
    · have hki : ¬ (k : Int) < ((n : Nat) : Int) := by omega
      have hkn : k = n := by omega
      subst hkn
      rw [Nat.sub_self] at S
      rw [List.take_of_length_le (by rw [HI.out.2.2.2.1]; omega)] at hv
      simp only [zr3, List.append_nil] at S
      clear hlt hk; go_wp2_with fail
      exact bodyPost_ret (v := .tuple #[.slice (some ⟨w.heap.size, 0, none⟩) k k, .int .i64 0]) (by simp [results, Tryz.f86, go_sem]) rfl (⟨⟨_, rfl, _, vs, by rw [HI.out.2.2.2.1], Nat.le_refl _, (S.locs.get 0 rfl).2, hv⟩, S.below⟩)
theorem map_snoc {F : Rat → Rat} {xs : List Rat} {k : Nat} {x : Rat} (h : xs[k]? = some x) : (xs.map F).take (k + 1) = (xs.map F).take k ++ [F x] := by
  rw [List.take_add_one, List.getElem?_map, h]
  rfl
set_option maxRecDepth 100000 in
set_option maxHeartbeats 4000000 in
theorem vplace_any {va : Value} {xs : List Rat} {w : World} (ha : Rats w va xs) (n : Nat) (hla : xs.length = n) (hn : n ≤ 1000000) (fid : FuncId) (cp : Value) (F : Rat → Rat)
    (hcf : ∀ (u : Value) (W : World), Sem.run Tryz.prog (callFunc fid #[u, cp]) W = .ok (.enter fid #[u, cp]) W)
    (hf : ∀ (W : World) (u : Value) (k : Nat) (x : Rat), Below w.heap.size w W → xs[k]? = some x → IsRat W u x → Calls Tryz.prog fid #[u, cp] W fun e w' => (∃ r, e = .returned (.tuple #[r, .int .i64 0]) ∧ IsRat w' r (F x)) ∧ Below W.heap.size W w') :
    Calls Tryz.prog 90 #[va, .func (.func fid) #[] #[cp]] w fun e w' => (∃ v, e = .returned (.tuple #[v, .int .i64 0]) ∧ FreshR w w' v (xs.map F)) ∧ Below w.heap.size w w' := by
  have hz : (xs.map F).length = n := by simp [hla]
  obtain ⟨pa, ca, rfl⟩ := ha.form
  rw [hla] at ha ⊢
  have HI := Lib.hid (And.intro ha (And.intro hf (And.intro hz hn)))
  clear ha hf hz
  have S := St.start w
  go_enter Tryz.func90, Tryz.ntmps90
  go_upto_region 2 with (at_make; refine make_rats S rfl _ _ rfl _ _ n rfl rfl ?hL ?hC ?hn (fun w3 S3 hB3 => ?_))
  case hL => rfl
  case hC => rfl
  case hn => omega
  simp only [List.nil_append] at S3
  replace S := S3
  clear S3 hB3; go_wp2_with fail
  go_loopw [15] (fun si wr => ∃ k : Nat, k ≤ n ∧ si = .int .i64 k ∧ ∃ vs, RL wr vs ((xs.map F).take k) ∧ St w wr [(w.heap.size, 34, vs ++ zr3 (n - k))]) (fun si _ => n - (intOf si).toNat)
  case atStart => exact ⟨0, by omega, rfl, [], trivial, S⟩
  case round =>
    clear S
    obtain ⟨k, hk, rfl, vs, hv, S⟩ := hrel
    by_cases hlt : k < n
    · obtain ⟨r, hr⟩ : ∃ r, n - k = r + 1 := ⟨n - k - 1, by omega⟩
      rw [hr] at S
      have hl : vs.length = k * 3 := by rw [hv.len, List.length_take, HI.out.2.2.1]; omega
      obtain ⟨ga, oa, x, v0, v1, v2, rfl, hga, hqa, a0, a1, a2, b1, p1, l1, K1, p2, l2, K2, rfl, rfl, rfl, hs1, n1, n2⟩ := HI.out.1.get hlt
      replace a0 := (S.below.cell (p := ⟨ga, oa + k * 3, none⟩) hga).trans a0
      replace a1 := (S.below.cell (p := ⟨ga, oa + k * 3 + 1, none⟩) hga).trans a1
      replace a2 := (S.below.cell (p := ⟨ga, oa + k * 3 + 2, none⟩) hga).trans a2
      have HQ := Lib.hid (And.intro hl (And.intro hlt (And.intro hr hqa)))
      have hki : (k : Int) < ((n : Nat) : Int) := by omega
      replace n1 := n1.below S.below (Nat.le_refl _)
      replace n2 := n2.below S.below (Nat.le_refl _)
      clear hr hlt hl hk hqa hga
      go_upto_region 6 with fail
      have H := S.hnew 34 [.bool b1, .slice p1 l1 K1, .slice p2 l2 K2]
      replace S := S.alloc 34 [.bool b1, .slice p1 l1 K1, .slice p2 l2 K2] (wr.heap.size)
      simp only [List.cons_append, List.nil_append] at S
      refine iv3 H hv n1 n2 ?_; clear hv n1 n2; intro hv n1 n2
      clear H a0 a1 a2; obtain ⟨c0, c1, c2⟩ := S.c3 1 rfl
      generalize (wr.alloc (.cells #[.bool b1, .slice p1 l1 K1, .slice p2 l2 K2] 34)) = w1 at S hv n1 n2 c0 c1 c2 ⊢
      go_wp2_with fail
      refine (S.call (HI.out.2.1 _ _ k x S.below HQ.out.2.2.2 ⟨b1, p1, l1, K1, p2, l2, K2, rfl, hs1, n1, n2⟩)).mono ?_
      rintro e w4 ⟨⟨_, rfl, b3, p3, l3, K3, p4, l4, K4, rfl, hs3, n5, n6⟩, S', H⟩
      replace hv := hv.hold H; clear S H n1 n2 hs1 c0 c1 c2
      have f0 := S'.f 0 (k * 3) rfl
      have f1 := S'.f 0 (k * 3 + 1) rfl
      have f2 := S'.f 0 (k * 3 + 2) rfl
      obtain ⟨S, H⟩ := S'.putAt 0 (.bool b3) (.slice p3 l3 K3) (.slice p4 l4 K4) rfl HQ.out.1
      have g0 := S'.c 0 (k * 3) rfl (v := .bool false) (by rw [← HQ.out.1]; simp [zr3])
      have g1 := S'.c 0 (k * 3 + 1) rfl (v := .slice none 0 0) (by rw [← HQ.out.1, List.getElem?_append_right (by omega)]; simp [zr3])
      have g2 := S'.c 0 (k * 3 + 2) rfl (v := .slice none 0 0) (by rw [← HQ.out.1, List.getElem?_append_right (by omega)]; simp [zr3])
      clear S'
      go_upto_region 7 with fail
      have hv2 := (hv.hold H).snoc (q := F x) ⟨b3, p3, l3, K3, p4, l4, K4, rfl, rfl, rfl, hs3, n5.hold H, n6.hold H⟩
      clear hv H hs3 n5 n6 g0 g1 g2 f0 f1 f2
      replace S := S.take 1 rfl
      go_wp2_with fail
      go_roundw
      case rel => exact ⟨k + 1, HQ.out.2.1, by go_num, _, by rw [map_snoc HQ.out.2.2.2]; exact hv2, by rw [show n - (k + 1) = r by have := HQ.out.2.2.1; omega]; exact S⟩
      case measure => have := HQ.out.2.1; simp [intOf]; omega
    · have hki : ¬ (k : Int) < ((n : Nat) : Int) := by omega
      have hkn : k = n := by omega
      subst hkn
      rw [Nat.sub_self] at S
      rw [List.take_of_length_le (by rw [HI.out.2.2.1]; omega)] at hv
      simp only [zr3, List.append_nil] at S
      clear hlt hk; go_wp2_with fail
      exact bodyPost_ret (v := .tuple #[.slice (some ⟨w.heap.size, 0, none⟩) k k, .int .i64 0]) (by simp [results, Tryz.f90, go_sem]) rfl (⟨⟨_, rfl, _, vs, by rw [HI.out.2.2.1], Nat.le_refl _, (S.locs.get 0 rfl).2, hv⟩, S.below⟩)
end Go.Proofs.YtcfgefbkeeedgaaGreatDoor
