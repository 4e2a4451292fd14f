/-
  What the statement stands on.
-/
import Derived.Test.YtcfgefbkeeedgaaGreatM07
import Derived.Test.YtcfgefbkeeedgaaGreatM18
import Derived.WalkSpells
namespace Go.Proofs.YtcfgefbkeeedgaaGreat
open Go.RowKit
def IsRat (w : World) (v : Value) (q : Rat) : Prop := ∃ b p l K p' l' K', v = .agg #[.bool b, .slice p l K, .slice p' l' K'] ∧ Hid (negB q.num = b) ∧ IsNat w (.slice p l K) q.num.natAbs ∧ IsNat w (.slice p' l' K') q.den
theorem IsRat.hold {w w' : World} {v : Value} {q : Rat} (h : Hold w w') : IsRat w v q → IsRat w' v q
  | ⟨b, p, l, K, p', l', K', e, hb, n, d⟩ => ⟨b, p, l, K, p', l', K', e, hb, n.hold h, d.hold h⟩
instance hdI9 {w w' : World} {v : Value} {q : Rat} : Hd w w' (IsRat w v q) (IsRat w' v q) := ⟨IsRat.hold⟩
theorem IsRat.below {B : Nat} {w w' : World} {v : Value} {q : Rat} (hb : Below B w w') (hB : w.heap.size ≤ B) : IsRat w v q → IsRat w' v q
  | ⟨b, p, l, K, p', l', K', e, h, n, d⟩ => ⟨b, p, l, K, p', l', K', e, h, n.below hb hB, d.below hb hB⟩
def RB (q : Rat) (k : Nat) : Prop := q.num.natAbs < NB k ∧ q.den < NB k
theorem RB.mono {q : Rat} {a b : Nat} (h : RB q a) (hk : a ≤ b) : RB q b := ⟨nb_mono h.1 hk, nb_mono h.2 hk⟩
section
variable {ops : Array Oper} {rest : List Oper} {o : Oper} {a : Act} {Q : Exit → Act → World → Prop} {w : World}
theorem append_clone (hg : o.guard = none) (s x : Operand) (ho : o.op = .call { callee := .builtin .append, args := #[s, x], argTypes := #[35, 35] }) (w1 : World) (hw : w = w1.alloc (.cells #[] 88)) (hs : a.eval s = .slice (some ⟨w1.heap.size, 0, none⟩) 0 0)
    (n : Nat) (u : Value) (hx : a.eval x = u) (hn : IsNat w u n) (hm : n < maxN)
    (hK : ∀ v' w', IsNat w' v' n → Below w1.heap.size w1 w' → wpList Tryz.prog ops Q rest (a.put o.dst v') w') :
    wpList Tryz.prog ops Q (o :: rest) a w := by
  subst hw
  obtain ⟨ds, ⟨p, K, rfl, hat⟩, hc, hv⟩ := hn
  have hl : ds.length ≤ 512 := hc.len_max.2 (by rw [hv]; exact hm)
  obtain ⟨i0, hi, hz0, hz1, hz2⟩ := info_parts info_u32
  have hown : Own .u32 88 (w1.alloc (.cells #[] 88)) w1.heap.size (.slice (some ⟨w1.heap.size, 0, none⟩) 0 0) [] := Own.made (q := .u32) (t := 88) w1 w1.heap.size 0 [] (Nat.le_refl _) rfl (by simp)
  exact append_list hg 35 88 .u32 i0 4 Tryz.underlying35 hi hz0 hz1 hz2 (by decide) s x ho w1.heap.size _ [] ds hs hown p K ds.length rfl hx hat (by simp; omega) (by simp) w1.heap.size w1 ((Below.refl _ w1).alloc (Nat.le_refl _) _) (Nat.le_refl _) fun v' w' h1 h2 _ => hK v' w' ⟨ds, h1.nums, hc, hv⟩ h2
end
set_option maxRecDepth 100000 in
set_option maxHeartbeats 1000000 in
theorem clone_any {v : Value} {n : Nat} {w : World} (h : IsNat w v n) (hm : n < maxN) :
    Calls Tryz.prog 54 #[v] w fun e w' => (∃ u, e = .returned u ∧ IsNat w' u n) ∧ Below w.heap.size w w' := by
  obtain ⟨p, l, K, rfl⟩ := h.form
  have HN := Lib.hid (And.intro h hm)
  have hnil := fun (w : World) (a : Option Addr) (n c n' c' : Nat) => Lib.run_eql_slice_nil (P := Tryz.prog) w 35 88 a n c n' c' Tryz.underlying35
  cases p with
  | none =>
    obtain ⟨rfl, rfl⟩ : l = 0 ∧ K = 0 := by
      obtain ⟨ds, ⟨p', K', e, hat⟩, _⟩ := h
      have e1 : p' = none := by cases e; rfl
      subst e1
      rcases hat with ⟨rfl, h0⟩ | ⟨b, o, h1, _⟩
      · cases e; exact ⟨rfl, h0 rfl⟩
      · cases h1
    clear h hm
    go_enter Tryz.func54, Tryz.ntmps54
    go_wp2
    go_ret
    exact ⟨⟨_, rfl, HN.out.1⟩, Below.refl _ _⟩
  | some a =>
    clear h hm
    go_enter Tryz.func54, Tryz.ntmps54
    go_wp2_with (at_builtin; refine append_clone rfl (.tmp 5) (.tmp 6) rfl w rfl rfl n _ rfl (HN.out.1.below ((Below.refl _ w).alloc (Nat.le_refl _) _) (Nat.le_refl _)) HN.out.2 (fun v' w' hn' hB' => ?_))
    obtain ⟨p2, l2, K2, rfl⟩ := hn'.form
    have HV := Lib.hid hn'
    clear hn'; go_wp2_with fail
    exact bodyPost_ret (v := .slice p2 l2 K2) (by simp [results, Tryz.f54, go_sem]) rfl ⟨⟨_, rfl, HV.out⟩, hB'⟩
set_option maxRecDepth 100000 in
set_option maxHeartbeats 2000000 in
theorem rwhole_any {va : Value} {x : Int} {w : World} (ha : IsInt w va x) (hx : x.natAbs < maxN) (q : Rat) (hq : q = (x : Rat)) :
    Calls Tryz.prog 35 #[va] w fun e w' => (∃ u, e = .returned u ∧ IsRat w' u q) ∧ Below w.heap.size w w' := by
  obtain ⟨p1, l1, K1, rfl, n1⟩ := ha
  obtain ⟨b1, hb1⟩ : ∃ b1, negB x = b1 := ⟨_, rfl⟩
  rw [hb1]
  have HD := Lib.hid (And.intro hb1 (And.intro hx hq))
  clear hb1 hx hq
  have S := ((St.start w).alloc 37 [.bool b1, .slice p1 l1 K1] (w.heap.size)).alloc 39 [.bool false, .slice none 0 0, .slice none 0 0] (w.heap.size + 1)
  try simp only [List.cons_append, List.nil_append] at S
  replace n1 := n1.hold S.hold
  have c0_0 := S.c 0 0 rfl rfl; have c0_1 := S.c 0 1 rfl rfl; obtain ⟨c1_0, c1_1, c1_2⟩ := S.c3 1 rfl
  go_enter Tryz.func35, Tryz.ntmps35
  go_upto_region 1 with fail
  clear c0_0 c0_1 c1_0 c1_1 c1_2
  generalize ((w.alloc (.cells #[.bool b1, .slice p1 l1 K1] 37)).alloc (.cells #[.bool false, .slice none 0 0, .slice none 0 0] 39)) = w1 at S n1 ⊢
  go_cut [3] (fun s3 wx => ∃ g3 p l K, s3 = .pointer (some ⟨g3, 0, none⟩) ∧ St w wx [(w.heap.size, 37, [.bool b1, .slice p1 l1 K1]), (w.heap.size + 1, 39, [.bool false, .slice none 0 0, .slice none 0 0]), (g3, 37, [.bool b1, .slice p l K])] ∧ IsNat wx (.slice p l K) x.natAbs ∧ Hold w1 wx)
  case first =>
    have HH := Hold.drew w1
    replace n1 := n1.hold HH
    replace S := S.drew
    refine wp_region_held_drew (S := fun W => W.cell? ⟨w.heap.size, 0, none⟩ = some (.bool b1) ∧ W.cell? ⟨w.heap.size, 1, none⟩ = some (.slice p1 l1 K1)) (by kernel_rfl) ⟨(S.c 0 0 rfl rfl), (S.c 0 1 rfl rfl)⟩ (fun hS => ?_)
    generalize w1.drew = w2 at S n1 HH hS ⊢
    refine tk 0 hS ?_
    refine tk 1 hS ?_
    refine tk 2 hS ?_
    refine tk 3 hS ?_
    refine wpAnyH_ready (rs := [4, 6]) (by kernel_rfl) (by simp) (AllReadyH.cons (opOf rfl) (fun KK hKK => ?_) (AllReadyH.cons (opOf rfl) (fun KK hKK => ?_) AllReadyH.nil))
    ·
      go_simp; clear hS
      refine (S.call (clone_any n1 HD.out.2.1)).mono ?_
      clear S
      rintro e w3 ⟨⟨_, rfl, nv⟩, S, H⟩
      replace n1 := n1.hold H; replace HH := HH.trans H; clear H
      obtain ⟨p, l, K, rfl⟩ := nv.form
      go_wp2_with fail
      refine ho hKK ⟨(S.c 0 0 rfl rfl), (S.c 0 1 rfl rfl)⟩ fun hS => ?_
      clear hKK KK
      refine tk 5 hS ?_
      refine rd 6 fun KK hKK => ?_
      go_simp; clear hS
      have H := S.hnew 37 [.bool false, .slice none 0 0]
      replace S := S.al 37 [.bool false, .slice none 0 0] (w3.heap.size)
      replace n1 := n1.hold H; replace nv := nv.hold H; replace HH := HH.trans H; clear H
      refine ho hKK ⟨(S.c 0 0 rfl rfl), (S.c 0 1 rfl rfl)⟩ fun hS => ?_
      generalize (w3.alloc (.cells #[.bool false, .slice none 0 0] 37)) = w4 at S n1 nv HH hS ⊢
      clear hKK KK
      refine rd 7 fun KK hKK => ?_
      have c0 := S.c 2 0 rfl rfl; have f0 := S.f 2 0 rfl; have c1 := S.c 2 1 rfl rfl; have f1 := S.f 2 1 rfl; go_simp; clear hS c0 f0 c1 f1
      have H := S.hset 2 0 (.bool b1) rfl rfl (by intro q n e; cases e)
      replace S := S.set 2 0 (.bool b1) rfl
      replace n1 := n1.hold H; replace nv := nv.hold H; replace HH := HH.trans H; clear H
      have H := S.hset 2 1 (.slice p l K) rfl rfl (by intro q n e; cases e)
      replace S := S.set 2 1 (.slice p l K) rfl
      replace n1 := n1.hold H; replace nv := nv.hold H; replace HH := HH.trans H; clear H
      refine ho hKK ⟨(S.c 0 0 rfl rfl), (S.c 0 1 rfl rfl)⟩ fun hS => ?_
      generalize ((w4.setCell ⟨w3.heap.size, 0, none⟩ (.bool b1)).setCell ⟨w3.heap.size, 1, none⟩ (.slice p l K)) = w5 at S n1 nv HH hS ⊢
      clear hKK KK
      refine wpAnyH_done (by kernel_rfl) ?_ _
      go_wp2_with fail
      go_meet
      case rel => exact ⟨w3.heap.size, p, l, K, rfl, S, nv, HH⟩
    ·
      go_simp; clear hS
      have H := S.hnew 37 [.bool false, .slice none 0 0]
      replace S := S.al 37 [.bool false, .slice none 0 0] (w2.heap.size)
      replace n1 := n1.hold H; replace HH := HH.trans H; clear H
      refine ho hKK ⟨(S.c 0 0 rfl rfl), (S.c 0 1 rfl rfl)⟩ fun hS => ?_
      generalize (w2.alloc (.cells #[.bool false, .slice none 0 0] 37)) = w6 at S n1 HH hS ⊢
      clear hKK KK
      refine rd 4 fun KK hKK => ?_
      go_simp; clear hS
      refine (S.call (clone_any n1 HD.out.2.1)).mono ?_
      clear S
      rintro e w7 ⟨⟨_, rfl, nv⟩, S, H⟩
      replace n1 := n1.hold H; replace HH := HH.trans H; clear H
      obtain ⟨p, l, K, rfl⟩ := nv.form
      go_wp2_with fail
      refine ho hKK ⟨(S.c 0 0 rfl rfl), (S.c 0 1 rfl rfl)⟩ fun hS => ?_
      clear hKK KK
      refine tk 5 hS ?_
      refine rd 7 fun KK hKK => ?_
      have c0 := S.c 2 0 rfl rfl; have f0 := S.f 2 0 rfl; have c1 := S.c 2 1 rfl rfl; have f1 := S.f 2 1 rfl; go_simp; clear hS c0 f0 c1 f1
      have H := S.hset 2 0 (.bool b1) rfl rfl (by intro q n e; cases e)
      replace S := S.set 2 0 (.bool b1) rfl
      replace n1 := n1.hold H; replace nv := nv.hold H; replace HH := HH.trans H; clear H
      have H := S.hset 2 1 (.slice p l K) rfl rfl (by intro q n e; cases e)
      replace S := S.set 2 1 (.slice p l K) rfl
      replace n1 := n1.hold H; replace nv := nv.hold H; replace HH := HH.trans H; clear H
      refine ho hKK ⟨(S.c 0 0 rfl rfl), (S.c 0 1 rfl rfl)⟩ fun hS => ?_
      generalize ((w7.setCell ⟨w2.heap.size, 0, none⟩ (.bool b1)).setCell ⟨w2.heap.size, 1, none⟩ (.slice p l K)) = w8 at S n1 nv HH hS ⊢
      clear hKK KK
      refine wpAnyH_done (by kernel_rfl) ?_ _
      go_wp2_with fail
      go_meet
      case rel => exact ⟨w2.heap.size, p, l, K, rfl, S, nv, HH⟩
  case rest =>
    obtain ⟨g3, p, l, K, rfl, S, nv, HH⟩ := hcut
    obtain ⟨w9, rfl⟩ : ∃ W : World, W = wc := ⟨_, rfl⟩
    replace n1 := n1.hold HH; clear HH; have c0_0 := S.c 0 0 rfl rfl; have c0_1 := S.c 0 1 rfl rfl; obtain ⟨c1_0, c1_1, c1_2⟩ := S.c3 1 rfl; have c2_0 := S.c 2 0 rfl rfl; have c2_1 := S.c 2 1 rfl rfl
    go_upto_region 2 with fail
    clear c0_0 c0_1 c1_0 c1_1 c1_2 c2_0 c2_1
    have HH := Hold.drew w9
    replace n1 := n1.hold HH; replace nv := nv.hold HH
    replace S := S.drew
    refine wp_region_held_drew (S := fun W => W.cell? ⟨g3, 0, none⟩ = some (.bool b1) ∧ W.cell? ⟨g3, 1, none⟩ = some (.slice p l K)) (by kernel_rfl) ⟨(S.c 2 0 rfl rfl), (S.c 2 1 rfl rfl)⟩ (fun hS => ?_)
    generalize w9.drew = w10 at S n1 nv HH hS ⊢
    refine tk 0 hS ?_
    refine rd 1 fun KK hKK => ?_
    go_simp; clear hS
    refine (S.call (of_any 1 _ (by decide))).mono ?_
    clear S
    rintro e w11 ⟨⟨_, rfl, no⟩, S, H⟩
    replace n1 := n1.hold H; replace nv := nv.hold H; replace HH := HH.trans H; clear H
    obtain ⟨pd, ld, Kd, rfl⟩ := no.form
    go_wp2_with fail
    refine ho hKK ⟨(S.c 2 0 rfl rfl), (S.c 2 1 rfl rfl)⟩ fun hS => ?_
    clear hKK KK
    refine tk 2 hS ?_
    refine rd 3 fun KK hKK => ?_
    obtain ⟨c0, c1, c2⟩ := S.c3 1 rfl; obtain ⟨f0, f1, f2⟩ := S.f3 1 rfl
    go_simp; clear hS c0 f0 c1 f1 c2 f2
    have HP := S.putq 1 (.bool b1) (.slice p l K) (.slice pd ld Kd) rfl rfl; have H := HP.2; replace S := HP.1; clear HP
    refine iv3 H n1 nv no ?_; clear n1 nv no; intro n1 nv no; replace HH := HH.trans H; clear H
    refine ho hKK ⟨(S.c 2 0 rfl rfl), (S.c 2 1 rfl rfl)⟩ fun hS => ?_
    generalize (((w11.setCell ⟨w.heap.size + 1, 0, none⟩ (.bool b1)).setCell ⟨w.heap.size + 1, 1, none⟩ (.slice p l K)).setCell ⟨w.heap.size + 1, 2, none⟩ (.slice pd ld Kd)) = w12 at S n1 nv no HH hS ⊢
    clear hKK KK
    refine wpAnyH_done (by kernel_rfl) ?_ _
    clear hS HH; have c0_0 := S.c 0 0 rfl rfl; have c0_1 := S.c 0 1 rfl rfl; obtain ⟨c1_0, c1_1, c1_2⟩ := S.c3 1 rfl; have c2_0 := S.c 2 0 rfl rfl; have c2_1 := S.c 2 1 rfl rfl; go_wp2_with fail; obtain ⟨d1_0, d1_1, d1_2⟩ := S.c3 1 rfl
    exact bodyPost_ret (v := .agg #[.bool b1, .slice p l K, .slice pd ld Kd]) (by simp [results, Tryz.f35, go_sem, d1_0, d1_1, d1_2]) rfl (⟨⟨_, rfl, b1, p, l, K, pd, ld, Kd, rfl, by rw [HD.out.2.2]; exact HD.out.1, by rw [HD.out.2.2]; exact nv, by rw [HD.out.2.2]; exact no⟩, S.below⟩)
theorem IsInt.zero (w : World) : IsInt w (.agg #[.bool false, .slice none 0 0]) 0 := ⟨none, 0, 0, rfl, ⟨[], .nil _ _, Can.nil _, rfl⟩⟩
set_option maxRecDepth 100000 in
set_option maxHeartbeats 1000000 in
theorem rzero_any (w : World) : Calls Tryz.prog 15 #[] w fun e w' => (∃ u, e = .returned u ∧ IsRat w' u 0) ∧ Below w.heap.size w w' := by
  have HM := Lib.hid (lt_maxN (m := 0) (by decide))
  have S := (St.start w).alloc 39 [.bool false, .slice none 0 0, .slice none 0 0] (w.heap.size)
  try simp only [List.nil_append] at S
  obtain ⟨c0_0, c0_1, c0_2⟩ := S.c3 0 rfl
  go_enter Tryz.func15, Tryz.ntmps15
  go_wp2_with fail; clear c0_0 c0_1 c0_2
  refine (S.call (rwhole_any (IsInt.zero _) HM.out 0 rfl)).mono ?_
  clear S
  rintro e w1 ⟨⟨_, rfl, b, p, l, K, pd, ld, Kd, rfl, hb, nn, nd⟩, S, H⟩
  clear H; obtain ⟨c0_0, c0_1, c0_2⟩ := S.c3 0 rfl
  obtain ⟨f0_0, f0_1, f0_2⟩ := S.f3 0 rfl
  have HP := S.putq 0 (.bool b) (.slice p l K) (.slice pd ld Kd) rfl rfl; have H := HP.2; replace S := HP.1; clear HP
  replace nn := nn.hold H; replace nd := nd.hold H
  clear H; go_wp2_with fail; obtain ⟨d0_0, d0_1, d0_2⟩ := S.c3 0 rfl
  exact bodyPost_ret (v := .agg #[.bool b, .slice p l K, .slice pd ld Kd]) (by simp [results, Tryz.f15, go_sem, d0_0, d0_1, d0_2]) rfl (⟨⟨_, rfl, b, p, l, K, pd, ld, Kd, rfl, hb, nn, nd⟩, S.below⟩)
theorem RL.snoc {w : World} {vs : List Value} {qs : List Rat} {v0 v1 v2 : Value} {q : Rat} (h : RL w vs qs) (h1 : RatV w v0 v1 v2 q) : RL w (vs ++ [v0, v1, v2]) (qs ++ [q]) := h.app ⟨h1, trivial⟩
def FreshR (w w' : World) (v : Value) (qs : List Rat) : Prop := ∃ g vs, v = .slice (some ⟨g, 0, none⟩) qs.length qs.length ∧ w.heap.size ≤ g ∧ w'.heap[g]? = some (.cells vs.toArray 39 (0, 0)) ∧ RL w' vs qs
set_option maxRecDepth 100000 in
set_option maxHeartbeats 4000000 in
theorem vzero_any (n : Nat) (hn : n ≤ 16) (w : World) :
    Calls Tryz.prog 5 #[.int .i64 n] w fun e w' => (∃ v, e = .returned v ∧ FreshR w w' v (List.replicate n 0)) ∧ Below w.heap.size w w' := by
  have m1 : max ((n : Nat) : Int) 0 = n := by omega
  have m2 : min ((n : Nat) : Int) 16 = n := by omega
  have S := St.start w
  go_enter Tryz.func5, Tryz.ntmps5
  go_upto_region 2 with (at_make; refine make_rats S rfl _ _ rfl _ _ n rfl rfl ?hL ?hC ?hn (fun w3 S3 hB3 => ?_))
  case hL => simp
  case hC => simp
  case hn => omega
  simp only [List.nil_append] at S3
  replace S := S3
  clear S3 hB3; go_wp2_with fail
  go_loopw [11] (fun si wr => ∃ k : Nat, k ≤ n ∧ si = .int .i64 k ∧ ∃ vs, RL wr vs (List.replicate k 0) ∧ St w wr [(w.heap.size, 39, vs ++ zr3 (n - k))]) (fun si _ => n - (intOf si).toNat)
  case atStart => exact ⟨0, by omega, rfl, [], trivial, S⟩
  case round =>
    clear S
    obtain ⟨k, hk, rfl, vs, hv, S⟩ := hrel
    by_cases hlt : k < n
    · obtain ⟨r, hr⟩ : ∃ r, n - k = r + 1 := ⟨n - k - 1, by omega⟩
      rw [hr] at S
      have hl : vs.length = k * 3 := by simpa using hv.len
      have HQ := Lib.hid (And.intro hl (And.intro hlt hr))
      have hki : (k : Int) < ((n : Nat) : Int) := by omega
      clear hr hlt hl hk; go_wp2_with fail
      refine (S.call (rzero_any _)).mono ?_
      rintro e w1 ⟨⟨_, rfl, b, p1, l1, K1, p2, l2, K2, rfl, hs, n1, n2⟩, S', H⟩
      replace hv := hv.hold H; clear S H
      have f0 := S'.f 0 (k * 3) rfl
      have f1 := S'.f 0 (k * 3 + 1) rfl
      have f2 := S'.f 0 (k * 3 + 2) rfl
      obtain ⟨S, H⟩ := S'.putAt 0 (.bool b) (.slice p1 l1 K1) (.slice p2 l2 K2) rfl HQ.out.1
      have g0 := S'.c 0 (k * 3) rfl (v := .bool false) (by rw [← HQ.out.1]; simp [zr3])
      have g1 := S'.c 0 (k * 3 + 1) rfl (v := .slice none 0 0) (by rw [← HQ.out.1, List.getElem?_append_right (by omega)]; simp [zr3])
      have g2 := S'.c 0 (k * 3 + 2) rfl (v := .slice none 0 0) (by rw [← HQ.out.1, List.getElem?_append_right (by omega)]; simp [zr3])
      clear S'
      go_upto_region 6 with fail
      have hv2 := (hv.hold H).snoc (q := 0) ⟨b, p1, l1, K1, p2, l2, K2, rfl, rfl, rfl, hs, n1.hold H, n2.hold H⟩
      clear hv H hs n1 n2 g0 g1 g2 f0 f1 f2; go_wp2_with fail
      go_roundw
      case rel => exact ⟨k + 1, HQ.out.2.1, by go_num, _, by rw [List.replicate_succ']; exact hv2, by rw [show n - (k + 1) = r by have := HQ.out.2.2; omega]; exact S⟩
      case measure => have := HQ.out.2.1; simp [intOf]; omega
    · have hki : ¬ (k : Int) < ((n : Nat) : Int) := by omega
      have hkn : k = n := by omega
      subst hkn
      rw [Nat.sub_self] at S
      simp only [zr3, List.append_nil] at S
      clear hlt hk; go_wp2_with fail
      exact bodyPost_ret (v := .slice (some ⟨w.heap.size, 0, none⟩) k k) (by simp [results, Tryz.f5, go_sem]) rfl (⟨⟨_, rfl, _, vs, by rw [List.length_replicate], Nat.le_refl _, (S.locs.get 0 rfl).2, hv⟩, S.below⟩)
theorem FreshR.from {w W w' : World} {v : Value} {qs : List Rat} (h : FreshR W w' v qs) (hl : w.heap.size ≤ W.heap.size) : FreshR w w' v qs := by
  obtain ⟨g, vs, e, hg, hh, hr⟩ := h
  exact ⟨g, vs, e, Nat.le_trans hl hg, hh, hr⟩
theorem FreshR.hold {w W W' : World} {v : Value} {qs : List Rat} (h : FreshR w W v qs) (hB : Below W.heap.size W W') : FreshR w W' v qs := by
  obtain ⟨g, vs, e, hg, hh, hr⟩ := h
  exact ⟨g, vs, e, hg, (hB.block g (lt_of_heap hh)).trans hh, hr.hold (Hold.of_below hB)⟩
theorem FreshR.rats {w W : World} {v : Value} {qs : List Rat} (h : FreshR w W v qs) : Rats W v qs := by
  obtain ⟨g, vs, e, hg, hh, hr⟩ := h
  subst e
  exact .row (lt_of_heap hh) (Nat.le_refl _) (.of_heap hh) hr
theorem RL.set {w : World} {v0 v1 v2 : Value} {q : Rat} (hq : RatV w v0 v1 v2 q) : ∀ {vs : List Value} {qs : List Rat} {j : Nat}, RL w vs qs → j < qs.length → RL w (((vs.set (j * 3) v0).set (j * 3 + 1) v1).set (j * 3 + 2) v2) (qs.set j q)
  | [], [], _, _, h => by simp at h
  | _ :: _ :: _ :: vs, _ :: qs, 0, ⟨_, h2⟩, _ => ⟨hq, h2⟩
  | u0 :: u1 :: u2 :: vs, p :: qs, j + 1, ⟨h1, h2⟩, h => by
    have ih := RL.set hq (j := j) h2 (by simpa using h)
    rw [show (j + 1) * 3 + 2 = j * 3 + 2 + 1 + 1 + 1 by omega, show (j + 1) * 3 + 1 = j * 3 + 1 + 1 + 1 + 1 by omega, show (j + 1) * 3 = j * 3 + 1 + 1 + 1 by omega]
    exact ⟨h1, ih⟩
theorem run_copy3 {P : Program} (w : World) (dT sT ty elem : TypeId) (g o dLen dCap : Nat) (a : Addr) (sLen sCap : Nat) (cur : Array Value) (t : TypeId) (cs : List Value)
    (hu : P.underlying dT = some (.slice elem)) (hs : (P.info? elem).map (·.size) = some 3)
    (hg : w.heap[g]? = some (.cells cur t (0, 0))) (hn : cs.length = Nat.min sLen dLen * 3)
    (hsrc : ∀ j v, cs[j]? = some v → w.cell? (a.add j) = some v) (hfit : o + cs.length ≤ cur.size) (h1 : ∀ v ∈ cs, v.oneCell' = true) :
    (Builtin.copy_ #[dT, sT] ty #[.slice (some ⟨g, o, none⟩) dLen dCap, .slice (some a) sLen sCap]).run P w =
      .ok (goInt (Nat.min sLen dLen)) (w.setRow g (cur.toList.take o ++ cs ++ cur.toList.drop (o + cs.length)).toArray) := by
  have hl := run_loadCells_list (P := P) w a cs hsrc
  have hst := run_storeCells_at P g o t cs 0 cur w hg (by simpa using hfit) h1
  cases hq : P.info? elem with
  | none => simp [hq] at hs
  | some i =>
    have hi : i.size = 3 := by simpa [hq] using hs
    simp [Builtin.copy_, run_underlying hu, Builtin.lenOf, Builtin.firstCells, sizeOf, typeInfo, hq, hi, ← hn, hl, hst]
theorem rats_cells {w : World} {p : Option Addr} {n c : Nat} {qs : List Rat} (h : Rats w (.slice p n c) qs) (hn : qs.length = n) : ∀ k, k ≤ n → ∃ cs : List Value, cs.length = k * 3 ∧ RL w cs (qs.take k) ∧ ∀ (j : Nat) v, cs[j]? = some v → v.oneCell' = true ∧ ∃ g off, p = some ⟨g, off, none⟩ ∧ w.cell? ⟨g, off + j, none⟩ = some v
  | 0, _ => ⟨[], rfl, by simp [RL], fun j v h => by simp at h⟩
  | k + 1, hk => by
    obtain ⟨cs, hl, hr, hc⟩ := rats_cells h hn k (by omega)
    obtain ⟨g, off, q, v0, v1, v2, rfl, hg, hq, a0, a1, a2, b, p1, l1, K1, p2, l2, K2, rfl, rfl, rfl, hb, n1, n2⟩ := h.get (j := k) (by omega)
    refine ⟨cs ++ [.bool b, .slice p1 l1 K1, .slice p2 l2 K2], by simp [hl]; omega, ?_, fun j v hj => ?_⟩
    · rw [List.take_add_one, hq]
      exact hr.app ⟨⟨b, p1, l1, K1, p2, l2, K2, rfl, rfl, rfl, hb, n1, n2⟩, trivial⟩
    · by_cases hlt : j < cs.length
      · rw [List.getElem?_append_left hlt] at hj
        exact hc j v hj
      · rw [List.getElem?_append_right (by omega), hl] at hj
        have h3 : j - k * 3 < 3 := by have := (List.getElem?_eq_some_iff.1 hj).1; simpa using this
        obtain ⟨i, hi⟩ : ∃ i, j = k * 3 + i := ⟨j - k * 3, by omega⟩
        subst hi
        rw [Nat.add_sub_cancel_left] at hj h3
        match i, hj with
        | 0, hj => cases hj; exact ⟨rfl, g, off, rfl, a0⟩
        | 1, hj => cases hj; exact ⟨rfl, g, off, rfl, a1⟩
        | 2, hj => cases hj; exact ⟨rfl, g, off, rfl, a2⟩
        | i + 3, _ => omega
section
variable {ops : Array Oper} {rest : List Oper} {o : Oper} {a : Act} {Q : Exit → Act → World → Prop} {w : World}
set_option maxRecDepth 100000 in
theorem copy_rats (hgd : o.guard = none) (d s : Operand) (ho : o.op = .call { callee := .builtin .copy, args := #[d, s], argTypes := #[22, 22] }) (g n c : Nat) (p : Option Addr) (hd : a.eval d = .slice (some ⟨g, 0, none⟩) n n) (hs : a.eval s = .slice p n c) (hp : p = none → c = 0 ∧ n = 0)
    (cs : List Value) (hcs : cs.length = n * 3) (hc : ∀ (j : Nat) v, cs[j]? = some v → v.oneCell' = true ∧ ∃ g off, p = some ⟨g, off, none⟩ ∧ w.cell? ⟨g, off + j, none⟩ = some v)
    (cur : List Value) (t : TypeId) (hrow : w.heap[g]? = some (.cells cur.toArray t (0, 0))) (hcur : cur.length = n * 3) (B : Nat) (w0 : World) (hb : Below B w0 w) (hBg : B ≤ g)
    (hK : ∀ w', w'.heap[g]? = some (.cells cs.toArray t (0, 0)) → Below B w0 w' → wpList Tryz.prog ops Q rest (a.put o.dst (goInt n)) w') : wpList Tryz.prog ops Q (o :: rest) a w := by
  have hsz : (Tryz.prog.info? 39).map (·.size) = some 3 := by
    obtain ⟨i0, hi, _, h1, _⟩ := info_parts info_rat
    rw [hi]; simpa using h1
  refine wpList_plain hgd fun K hK' => ?_
  cases p with
  | none =>
    obtain ⟨rfl, rfl⟩ := hp rfl
    obtain rfl : cs = [] := List.eq_nil_of_length_eq_zero (by omega)
    obtain rfl : cur = [] := List.eq_nil_of_length_eq_zero (by omega)
    have hrun : (Builtin.copy_ #[22, 22] o.type #[.slice (some ⟨g, 0, none⟩) 0 0, .slice none 0 0]).run Tryz.prog w = .ok (goInt 0) w := by
      cases hq : Tryz.prog.info? 39 with
      | none => rw [hq] at hsz; cases hsz
      | some i => simp [Builtin.copy_, run_underlying Tryz.underlying22, Builtin.lenOf, Builtin.firstCells, sizeOf, typeInfo, hq, storeCells]
    unfold Oper.wp
    simp [execOp, ho, resolve, invoke, builtin, hd, hs, hrun, Result.andThen]
    exact hK' _ _ (hK w hrow hb)
  | some ad =>
    have hrun := run_copy3 (P := Tryz.prog) w 22 22 o.type 39 g 0 n n ad n c cur.toArray t cs Tryz.underlying22 hsz hrow (by rw [hcs]; simp [Nat.min_self]) (fun j v hj => by
      obtain ⟨_, g', off, e, h⟩ := hc j v hj
      cases e
      have e : (⟨g', off, none⟩ : Addr).add j = ⟨g', off + j, none⟩ := by unfold Addr.add; split <;> simp_all
      rw [e]; exact h) (by simp [hcs, hcur]) (fun v hv => by
      obtain ⟨j, hj⟩ := List.getElem?_of_mem hv
      exact (hc j v hj).1)
    have hm : Nat.min n n = n := Nat.min_self n
    rw [hm] at hrun
    have hd0 : cur.drop cs.length = [] := List.drop_of_length_le (by omega)
    simp only [List.toList_toArray, List.take_zero, List.nil_append, Nat.zero_add, hd0, List.append_nil] at hrun
    unfold Oper.wp
    simp [execOp, ho, resolve, invoke, builtin, hd, hs, hrun, Result.andThen]
    exact hK' _ _ (hK _ (setRow_heap w g _ _ t _ hrow) (below_setRow hb hBg _))
end
theorem St.put1 {w W : World} {L : List (Nat × TypeId × List Value)} (S : St w W L) (i j : Nat) (v1 : Value) {b : Nat} {t : TypeId} {vs : List Value} {x1 : Value} (hi : L[i]? = some (b, t, vs)) (e1 : vs[j]? = some x1) (hn : noNum x1 = true) :
    St w (W.setCell ⟨b, j, none⟩ v1) (L.set i (b, t, vs.set j v1)) ∧ Hold W (W.setCell ⟨b, j, none⟩ v1) := by
  have S1 := S.set i j v1 hi
  rw [setL_set hi] at S1
  exact ⟨S1, Hold.set (S.c i j hi e1) (noNum_is hn) v1⟩
theorem set_same {α : Type} {vs : List α} {j : Nat} {v : α} (h : vs[j]? = some v) : vs.set j v = vs := by
  apply List.ext_getElem?
  intro k
  by_cases e : j = k
  · subst e
    rw [List.getElem?_set_self (List.getElem?_eq_some_iff.1 h).1, h]
  · rw [List.getElem?_set_ne e]
set_option maxRecDepth 100000 in
set_option maxHeartbeats 4000000 in
theorem dcopy_any {p : Option Addr} {n c : Nat} {qs : List Rat} {w : World} (h : Rats w (.slice p n c) qs) (hq : ∀ q, q ∈ qs → q.num.natAbs < maxN ∧ q.den < maxN) (hn9 : n ≤ 1000000) :
    Calls Tryz.prog 24 #[.slice p n c] w fun e w' => (∃ g vs, e = .returned (.slice (some ⟨g, 0, none⟩) n n) ∧ w.heap.size ≤ g ∧ w'.heap[g]? = some (.cells vs.toArray 39 (0, 0)) ∧ RL w' vs qs) ∧ Below w.heap.size w w' := by
  have hl : qs.length = n := by
    obtain ⟨_, _, e, _⟩ := h
    cases e; rfl
  have hp : p = none → c = 0 ∧ n = 0 := fun hp => by
    obtain ⟨_, _, e, h1, h2, _⟩ := h
    cases e
    have := h1 hp
    omega
  obtain ⟨cs, hcl, hR, hcs⟩ := rats_cells h hl n (Nat.le_refl _)
  rw [List.take_of_length_le (by omega)] at hR
  have hbl : ∀ (j : Nat) v, cs[j]? = some v → ∃ g off, p = some ⟨g, off, none⟩ ∧ g < w.heap.size := fun j v hj => by
    have hlt := (List.getElem?_eq_some_iff.1 hj).1
    obtain ⟨g, off, _, _, _, _, e, hg, _⟩ := h.get (j := 0) (by omega)
    exact ⟨g, off, e, hg⟩
  have HI := Lib.hid (And.intro hl (And.intro hp (And.intro hcl (And.intro hcs (And.intro hbl (And.intro hq hn9))))))
  have HR := Lib.hid hR
  clear h hl hp hcl hcs hbl hq hR
  have S := St.start w
  go_enter Tryz.func24, Tryz.ntmps24
  go_upto_region 2 with (at_make; refine make_rats S rfl _ _ rfl _ _ n rfl rfl ?hL ?hC ?hn (fun w3 S3 hB3 => ?_))
  case hL => simp
  case hC => simp
  case hn => omega
  simp only [List.nil_append] at S3
  have H3 := Hold.of_below hB3
  have hrow := (S3.locs.get 0 rfl).2
  have hcc : ∀ (j : Nat) v, cs[j]? = some v → v.oneCell' = true ∧ ∃ g off, p = some ⟨g, off, none⟩ ∧ w3.cell? ⟨g, off + j, none⟩ = some v := fun j v hj => by
    obtain ⟨h1, g, off, e, hc⟩ := HI.out.2.2.2.1 j v hj
    obtain ⟨g', off', e', hg⟩ := HI.out.2.2.2.2.1 j v hj
    rw [e] at e'
    cases e'
    exact ⟨h1, g, off, e, (hB3.cell (p := ⟨g, off + j, none⟩) hg).trans hc⟩
  go_upto_region 3 with (refine copy_rats rfl _ _ rfl w.heap.size n c p rfl rfl HI.out.2.1 cs HI.out.2.2.1 hcc (zr3 n) 39 hrow (zr3_len n) w.heap.size w hB3 (Nat.le_refl _) (fun w4 hr4 hB4 => ?_))
  have S : St w w4 [(w.heap.size, 39, cs)] := ⟨hB4, Nat.le_refl _, hr4, trivial⟩
  have hv0 := HR.out.hold (Hold.of_below hB4)
  have hn9 : ((n : Nat) : Int) ≤ 1000000 := by have := HI.out.2.2.2.2.2.2; omega
  clear S3 H3 hrow hcc hr4 hB4 hB3
  simp only [Act.put, List.setIfInBounds_toArray, List.set_cons_zero, List.set_cons_succ]
  generalize (goInt (n : Int)) = gi
  go_wp2_with fail
  go_loopw [14] (fun si wr => ∃ k : Nat, k ≤ n ∧ si = .int .i64 k ∧ ∃ vs, RL wr vs qs ∧ St w wr [(w.heap.size, 39, vs)]) (fun si _ => n - (intOf si).toNat)
  case atStart => exact ⟨0, by omega, rfl, cs, hv0, S⟩
  case round =>
    clear S hv0
    obtain ⟨k, hk, rfl, vs, hv, S⟩ := hrel
    by_cases hlt : k < n
    · have hq : qs[k]? = some (qs[k]'(by have := HI.out.1; omega)) := List.getElem?_eq_getElem _
      generalize (qs[k]'(by have := HI.out.1; omega)) = q at hq
      obtain ⟨v0, v1, v2, a0, a1, a2, b, p1, l1, K1, p2, l2, K2, rfl, rfl, rfl, hb, n1, n2⟩ := hv.get hq
      have HQ := Lib.hid (And.intro hlt (And.intro hq (And.intro (HI.out.2.2.2.2.2.1 q (List.mem_of_getElem? hq)) (And.intro a0 (And.intro a1 a2)))))
      have hki : (k : Int) < ((n : Nat) : Int) := by omega
      have hk9 : (k : Int) ≤ 1000000 := by omega
      have k0 := S.c 0 (k * 3) rfl a0
      have k1 := S.c 0 (k * 3 + 1) rfl a1
      have k2 := S.c 0 (k * 3 + 2) rfl a2
      clear hlt hk hq a0 a1 a2
      have H := S.hnew 39 [.bool b, .slice p1 l1 K1, .slice p2 l2 K2]
      replace S := S.alloc 39 [.bool b, .slice p1 l1 K1, .slice p2 l2 K2] (wr.heap.size)
      simp only [List.cons_append, List.nil_append] at S
      refine iv3 H hv n1 n2 ?_; clear hv n1 n2; intro hv n1 n2
      clear H
      go_upto_region 6 with fail
      clear k0 k1 k2
      replace hv := hv.hold (Hold.drew _); replace n1 := n1.hold (Hold.drew _); replace n2 := n2.hold (Hold.drew _)
      replace S := S.drew
      refine wp_region_held_drew (S := fun W => W.cell? ⟨wr.heap.size, 1, none⟩ = some (.slice p1 l1 K1) ∧ W.cell? ⟨wr.heap.size, 2, none⟩ = some (.slice p2 l2 K2)) (by kernel_rfl) ⟨S.c 1 1 rfl rfl, S.c 1 2 rfl rfl⟩ (fun hS => ?_)
      refine tk 0 hS ?_
      refine tk 1 hS ?_
      refine tk 2 hS ?_
      refine tk 3 hS ?_
      refine tk 4 hS ?_
      refine tk 5 hS ?_
      refine tk 6 hS ?_
      refine tk 8 hS ?_
      refine tk 9 hS ?_
      refine rd 7 fun KK hKK => ?_
      go_simp; clear hS
      refine (S.call (clone_any n1 HQ.out.2.2.1.1)).mono ?_
      clear S
      rintro e w6 ⟨⟨_, rfl, nc⟩, S, H⟩
      obtain ⟨pc, lc, Kc, rfl⟩ := nc.form
      replace hv := hv.hold H; replace n2 := n2.hold H
      clear H n1; go_wp2_with fail
      refine ho hKK ⟨S.c 1 1 rfl rfl, S.c 1 2 rfl rfl⟩ fun hS => ?_
      clear hKK KK
      refine rd 10 fun KK hKK => ?_
      go_simp; clear hS
      refine (S.call (clone_any n2 HQ.out.2.2.1.2)).mono ?_
      clear S
      rintro e w7 ⟨⟨_, rfl, nd⟩, S, H⟩
      obtain ⟨pd, ld, Kd, rfl⟩ := nd.form
      replace hv := hv.hold H; replace nc := nc.hold H
      clear H n2; go_wp2_with fail
      refine ho hKK ⟨S.c 1 1 rfl rfl, S.c 1 2 rfl rfl⟩ fun hS => ?_
      clear hKK KK
      refine tk 11 hS ?_
      refine tk 12 hS ?_
      refine tk 13 hS ?_
      have k1 := S.c 0 (k * 3 + 1) rfl HQ.out.2.2.2.2.1
      have f1 := S.f 0 (k * 3 + 1) rfl
      have HP := S.put1 0 (k * 3 + 1) (.slice pc lc Kc) rfl HQ.out.2.2.2.2.1 rfl
      simp only [List.set_cons_zero] at HP
      refine rd 14 fun KK hKK => ?_
      go_simp
      have H := HP.2; replace S := HP.1; clear HP k1 f1 hS
      refine iv3 H hv nc nd ?_; clear hv nc nd; intro hv nc nd
      clear H
      refine ho hKK ⟨S.c 1 1 rfl rfl, S.c 1 2 rfl rfl⟩ fun hS => ?_
      clear hKK KK
      refine tk 15 hS ?_
      refine tk 16 hS ?_
      have e2 : (vs.set (k * 3 + 1) (.slice pc lc Kc))[k * 3 + 2]? = some (.slice p2 l2 K2) := by rw [List.getElem?_set_ne (by omega)]; exact HQ.out.2.2.2.2.2
      have k2 := S.c 0 (k * 3 + 2) rfl e2
      have f2 := S.f 0 (k * 3 + 2) rfl
      have HP := S.put1 0 (k * 3 + 2) (.slice pd ld Kd) rfl e2 rfl
      simp only [List.set_cons_zero] at HP
      clear e2
      refine rd 17 fun KK hKK => ?_
      go_simp
      have H := HP.2; replace S := HP.1; clear HP k2 f2 hS
      refine iv3 H hv nc nd ?_; clear hv nc nd; intro hv nc nd
      clear H
      refine ho hKK ⟨S.c 1 1 rfl rfl, S.c 1 2 rfl rfl⟩ fun hS => ?_
      clear hKK KK
      refine wpAnyH_done (by kernel_rfl) ?_ _
      clear hS
      have hv2 := RL.set (j := k) (q := q) ⟨b, pc, lc, Kc, pd, ld, Kd, rfl, rfl, rfl, hb, nc, nd⟩ hv (by have := HI.out.1; have := HQ.out.1; omega)
      rw [set_same HQ.out.2.2.2.1, set_same HQ.out.2.1] at hv2
      replace S := S.take 1 rfl
      clear hv nc nd; go_wp2_with fail
      go_roundw
      case rel => exact ⟨k + 1, HQ.out.1, by go_num, _, hv2, S⟩
      case measure => have := HQ.out.1; simp [intOf]; omega
    · have hki : ¬ (k : Int) < ((n : Nat) : Int) := by omega
      clear hlt hk; go_wp2_with fail
      exact bodyPost_ret (v := .slice (some ⟨w.heap.size, 0, none⟩) n n) (by simp [results, Tryz.f24, go_sem]) rfl (by first | exact ⟨⟨w.heap.size, vs, rfl, Nat.le_refl _, S.locs.2.1, hv⟩, S.below⟩ | exact ⟨⟨w.heap.size, rfl, Nat.le_refl _, vs, S.locs.2.1, hv⟩, S.below⟩)
theorem map_snoc {F : Rat → Rat} {xs : List Rat} {k : Nat} {x : Rat} (h : xs[k]? = some x) : (xs.map F).take (k + 1) = (xs.map F).take k ++ [F x] := by
  rw [List.take_add_one, List.getElem?_map, h]
  rfl
set_option maxRecDepth 100000 in
set_option maxHeartbeats 4000000 in
theorem vplace_any {va : Value} {xs : List Rat} {w : World} (ha : Rats w va xs) (n : Nat) (hla : xs.length = n) (hn : n ≤ 1000000) (fid : FuncId) (cp : Value) (F : Rat → Rat)
    (hcf : ∀ (u : Value) (W : World), Sem.run Tryz.prog (callFunc fid #[u, cp]) W = .ok (.enter fid #[u, cp]) W)
    (hf : ∀ (W : World) (u : Value) (k : Nat) (x : Rat), Below w.heap.size w W → xs[k]? = some x → IsRat W u x → Calls Tryz.prog fid #[u, cp] W fun e w' => (∃ r, e = .returned (.tuple #[r, .int .i64 0]) ∧ IsRat w' r (F x)) ∧ Below W.heap.size W w') :
    Calls Tryz.prog 57 #[va, .func (.func fid) #[] #[cp]] w fun e w' => (∃ v, e = .returned (.tuple #[v, .int .i64 0]) ∧ FreshR w w' v (xs.map F)) ∧ Below w.heap.size w w' := by
  have hz : (xs.map F).length = n := by simp [hla]
  obtain ⟨pa, ca, rfl⟩ := ha.form
  rw [hla] at ha ⊢
  have HI := Lib.hid (And.intro ha (And.intro hf (And.intro hz hn)))
  clear ha hf hz
  have S := St.start w
  go_enter Tryz.func57, Tryz.ntmps57
  go_upto_region 2 with (at_make; refine make_rats S rfl _ _ rfl _ _ n rfl rfl ?hL ?hC ?hn (fun w3 S3 hB3 => ?_))
  case hL => rfl
  case hC => rfl
  case hn => omega
  simp only [List.nil_append] at S3
  replace S := S3
  clear S3 hB3; go_wp2_with fail
  go_loopw [15] (fun si wr => ∃ k : Nat, k ≤ n ∧ si = .int .i64 k ∧ ∃ vs, RL wr vs ((xs.map F).take k) ∧ St w wr [(w.heap.size, 39, vs ++ zr3 (n - k))]) (fun si _ => n - (intOf si).toNat)
  case atStart => exact ⟨0, by omega, rfl, [], trivial, S⟩
  case round =>
    clear S
    obtain ⟨k, hk, rfl, vs, hv, S⟩ := hrel
    by_cases hlt : k < n
    · obtain ⟨r, hr⟩ : ∃ r, n - k = r + 1 := ⟨n - k - 1, by omega⟩
      rw [hr] at S
      have hl : vs.length = k * 3 := by rw [hv.len, List.length_take, HI.out.2.2.1]; omega
      obtain ⟨ga, oa, x, v0, v1, v2, rfl, hga, hqa, a0, a1, a2, b1, p1, l1, K1, p2, l2, K2, rfl, rfl, rfl, hs1, n1, n2⟩ := HI.out.1.get hlt
      replace a0 := (S.below.cell (p := ⟨ga, oa + k * 3, none⟩) hga).trans a0
      replace a1 := (S.below.cell (p := ⟨ga, oa + k * 3 + 1, none⟩) hga).trans a1
      replace a2 := (S.below.cell (p := ⟨ga, oa + k * 3 + 2, none⟩) hga).trans a2
      have HQ := Lib.hid (And.intro hl (And.intro hlt (And.intro hr hqa)))
      have hki : (k : Int) < ((n : Nat) : Int) := by omega
      replace n1 := n1.below S.below (Nat.le_refl _)
      replace n2 := n2.below S.below (Nat.le_refl _)
      clear hr hlt hl hk hqa hga
      go_upto_region 6 with fail
      have H := S.hnew 39 [.bool b1, .slice p1 l1 K1, .slice p2 l2 K2]
      replace S := S.alloc 39 [.bool b1, .slice p1 l1 K1, .slice p2 l2 K2] (wr.heap.size)
      simp only [List.cons_append, List.nil_append] at S
      refine iv3 H hv n1 n2 ?_; clear hv n1 n2; intro hv n1 n2
      clear H a0 a1 a2; obtain ⟨c0, c1, c2⟩ := S.c3 1 rfl
      generalize (wr.alloc (.cells #[.bool b1, .slice p1 l1 K1, .slice p2 l2 K2] 39)) = w1 at S hv n1 n2 c0 c1 c2 ⊢
      go_wp2_with fail
      refine (S.call (HI.out.2.1 _ _ k x S.below HQ.out.2.2.2 ⟨b1, p1, l1, K1, p2, l2, K2, rfl, hs1, n1, n2⟩)).mono ?_
      rintro e w4 ⟨⟨_, rfl, b3, p3, l3, K3, p4, l4, K4, rfl, hs3, n5, n6⟩, S', H⟩
      replace hv := hv.hold H; clear S H n1 n2 hs1 c0 c1 c2
      have f0 := S'.f 0 (k * 3) rfl
      have f1 := S'.f 0 (k * 3 + 1) rfl
      have f2 := S'.f 0 (k * 3 + 2) rfl
      obtain ⟨S, H⟩ := S'.putAt 0 (.bool b3) (.slice p3 l3 K3) (.slice p4 l4 K4) rfl HQ.out.1
      have g0 := S'.c 0 (k * 3) rfl (v := .bool false) (by rw [← HQ.out.1]; simp [zr3])
      have g1 := S'.c 0 (k * 3 + 1) rfl (v := .slice none 0 0) (by rw [← HQ.out.1, List.getElem?_append_right (by omega)]; simp [zr3])
      have g2 := S'.c 0 (k * 3 + 2) rfl (v := .slice none 0 0) (by rw [← HQ.out.1, List.getElem?_append_right (by omega)]; simp [zr3])
      clear S'
      go_upto_region 7 with fail
      have hv2 := (hv.hold H).snoc (q := F x) ⟨b3, p3, l3, K3, p4, l4, K4, rfl, rfl, rfl, hs3, n5.hold H, n6.hold H⟩
      clear hv H hs3 n5 n6 g0 g1 g2 f0 f1 f2
      replace S := S.take 1 rfl
      go_wp2_with fail
      go_roundw
      case rel => exact ⟨k + 1, HQ.out.2.1, by go_num, _, by rw [map_snoc HQ.out.2.2.2]; exact hv2, by rw [show n - (k + 1) = r by have := HQ.out.2.2.1; omega]; exact S⟩
      case measure => have := HQ.out.2.1; simp [intOf]; omega
    · have hki : ¬ (k : Int) < ((n : Nat) : Int) := by omega
      have hkn : k = n := by omega
      subst hkn
      rw [Nat.sub_self] at S
      rw [List.take_of_length_le (by rw [HI.out.2.2.1]; omega)] at hv
      simp only [zr3, List.append_nil] at S
      clear hlt hk; go_wp2_with fail
      exact bodyPost_ret (v := .tuple #[.slice (some ⟨w.heap.size, 0, none⟩) k k, .int .i64 0]) (by simp [results, Tryz.f57, go_sem]) rfl (⟨⟨_, rfl, _, vs, by rw [HI.out.2.2.1], Nat.le_refl _, (S.locs.get 0 rfl).2, hv⟩, S.below⟩)
theorem zip_snoc {F : Rat → Rat → Rat} : ∀ {xs ys : List Rat} {k : Nat} {x y : Rat}, xs[k]? = some x → ys[k]? = some y → (List.zipWith F xs ys).take (k + 1) = (List.zipWith F xs ys).take k ++ [F x y]
  | [], _, _, _, _, h, _ => by simp at h
  | _ :: _, [], _, _, _, _, h => by simp at h
  | a :: xs, b :: ys, 0, x, y, h1, h2 => by simp at h1 h2; subst h1 h2; simp
  | a :: xs, b :: ys, k + 1, x, y, h1, h2 => by
    have := zip_snoc (F := F) (xs := xs) (ys := ys) (k := k) (by simpa using h1) (by simpa using h2)
    simp [this]
set_option maxRecDepth 100000 in
set_option maxHeartbeats 4000000 in
theorem vpair_any {va vb : Value} {xs ys : List Rat} {w : World} (ha : Rats w va xs) (hb : Rats w vb ys) (n : Nat) (hla : xs.length = n) (hlb : ys.length = n) (hn : n ≤ 1000000) (fid : FuncId) (F : Rat → Rat → Rat) (hcf : ∀ (u v : Value) (W : World), Sem.run Tryz.prog (callFunc fid #[u, v]) W = .ok (.enter fid #[u, v]) W)
    (hf : ∀ (W : World) (u v : Value) (k : Nat) (x y : Rat), xs[k]? = some x → ys[k]? = some y → IsRat W u x → IsRat W v y → Calls Tryz.prog fid #[u, v] W fun e w' => (∃ r, e = .returned (.tuple #[r, .int .i64 0]) ∧ IsRat w' r (F x y)) ∧ Below W.heap.size W w') :
    Calls Tryz.prog 60 #[va, vb, .func (.func fid) #[] #[]] w fun e w' => (∃ v, e = .returned (.tuple #[v, .int .i64 0]) ∧ FreshR w w' v (List.zipWith F xs ys)) ∧ Below w.heap.size w w' := by
  have hz : (List.zipWith F xs ys).length = n := by simp [hla, hlb]
  obtain ⟨pa, ca, rfl⟩ := ha.form
  obtain ⟨pb, cb, rfl⟩ := hb.form
  rw [hla] at ha ⊢
  rw [hlb] at hb ⊢
  have HI := Lib.hid (And.intro ha (And.intro hb (And.intro hf (And.intro hz hn))))
  clear ha hb hf hz
  have S := St.start w
  go_enter Tryz.func60, Tryz.ntmps60
  go_upto_region 4 with (at_make; refine make_rats S rfl _ _ rfl _ _ n rfl rfl ?hL ?hC ?hn (fun w3 S3 hB3 => ?_))
  case hL => rfl
  case hC => rfl
  case hn => omega
  simp only [List.nil_append] at S3
  replace S := S3
  clear S3 hB3; go_wp2_with fail
  go_loopw [22] (fun si wr => ∃ k : Nat, k ≤ n ∧ si = .int .i64 k ∧ ∃ vs, RL wr vs ((List.zipWith F xs ys).take k) ∧ St w wr [(w.heap.size, 39, vs ++ zr3 (n - k))]) (fun si _ => n - (intOf si).toNat)
  case atStart => exact ⟨0, by omega, rfl, [], trivial, S⟩
  case round =>
    clear S
    obtain ⟨k, hk, rfl, vs, hv, S⟩ := hrel
    by_cases hlt : k < n
    · obtain ⟨r, hr⟩ : ∃ r, n - k = r + 1 := ⟨n - k - 1, by omega⟩
      rw [hr] at S
      have hl : vs.length = k * 3 := by rw [hv.len, List.length_take, HI.out.2.2.2.1]; omega
      obtain ⟨ga, oa, x, v0, v1, v2, rfl, hga, hqa, a0, a1, a2, b1, p1, l1, K1, p2, l2, K2, rfl, rfl, rfl, hs1, n1, n2⟩ := HI.out.1.get hlt
      obtain ⟨gb, ob, y, v0, v1, v2, rfl, hgb, hqb, c0, c1, c2, b2, q1, j1, J1, q2, j2, J2, rfl, rfl, rfl, hs2, n3, n4⟩ := HI.out.2.1.get hlt
      replace a0 := (S.below.cell (p := ⟨ga, oa + k * 3, none⟩) hga).trans a0
      replace a1 := (S.below.cell (p := ⟨ga, oa + k * 3 + 1, none⟩) hga).trans a1
      replace a2 := (S.below.cell (p := ⟨ga, oa + k * 3 + 2, none⟩) hga).trans a2
      have HC := Lib.hid (And.intro hgb (And.intro c0 (And.intro c1 c2)))
      clear c0 c1 c2
      have HQ := Lib.hid (And.intro hl (And.intro hlt (And.intro hr (And.intro hqa (And.intro hqb hgb)))))
      have hki : (k : Int) < ((n : Nat) : Int) := by omega
      replace n1 := n1.below S.below (Nat.le_refl _)
      replace n2 := n2.below S.below (Nat.le_refl _)
      replace n3 := n3.below S.below (Nat.le_refl _)
      replace n4 := n4.below S.below (Nat.le_refl _)
      clear hr hlt hl hk hqa hqb hga hgb
      go_upto_region 8 with fail
      have H := S.hnew 39 [.bool b1, .slice p1 l1 K1, .slice p2 l2 K2]
      replace S := S.alloc 39 [.bool b1, .slice p1 l1 K1, .slice p2 l2 K2] (wr.heap.size)
      simp only [List.cons_append, List.nil_append] at S
      refine iv5 H hv n1 n2 n3 n4 ?_; clear hv n1 n2 n3 n4; intro hv n1 n2 n3 n4
      clear H a0 a1 a2
      generalize (wr.alloc (.cells #[.bool b1, .slice p1 l1 K1, .slice p2 l2 K2] 39)) = w1 at S hv n1 n2 n3 n4 ⊢
      have H := Hold.drew w1
      refine iv5 H hv n1 n2 n3 n4 ?_; clear hv n1 n2 n3 n4; intro hv n1 n2 n3 n4
      clear H
      replace S := S.drew
      generalize hgx : wr.heap.size = gx at S ⊢
      clear hgx
      refine wp_region_held_drew (S := fun W => W.cell? ⟨gb, ob + k * 3, none⟩ = some (.bool b2) ∧ W.cell? ⟨gb, ob + k * 3 + 1, none⟩ = some (.slice q1 j1 J1) ∧ W.cell? ⟨gb, ob + k * 3 + 2, none⟩ = some (.slice q2 j2 J2) ∧ W.cell? ⟨gx, 0, none⟩ = some (.bool b1) ∧ W.cell? ⟨gx, 1, none⟩ = some (.slice p1 l1 K1) ∧ W.cell? ⟨gx, 2, none⟩ = some (.slice p2 l2 K2)) (by kernel_rfl) ⟨(S.below.cell (p := ⟨gb, ob + k * 3, none⟩) HC.out.1).trans HC.out.2.1, (S.below.cell (p := ⟨gb, ob + k * 3 + 1, none⟩) HC.out.1).trans HC.out.2.2.1, (S.below.cell (p := ⟨gb, ob + k * 3 + 2, none⟩) HC.out.1).trans HC.out.2.2.2, S.c3 1 rfl⟩ (fun hS => ?_)
      generalize w1.drew = w2 at S hv n1 n2 n3 n4 hS ⊢
      refine tk 0 hS ?_
      refine tk 1 hS ?_
      refine tk 2 hS ?_
      refine tk 3 hS ?_
      refine tk 4 hS ?_
      refine tk 5 hS ?_
      refine tk 6 hS ?_
      refine tk 7 hS ?_
      refine rd 8 fun KK hKK => ?_
      go_simp; clear hS
      refine (S.call (HI.out.2.2.1 _ _ _ k x y HQ.out.2.2.2.1 HQ.out.2.2.2.2.1 ⟨b1, p1, l1, K1, p2, l2, K2, rfl, hs1, n1, n2⟩ ⟨b2, q1, j1, J1, q2, j2, J2, rfl, hs2, n3, n4⟩)).mono ?_
      clear S
      rintro e w4 ⟨⟨_, rfl, b3, p3, l3, K3, p4, l4, K4, rfl, hs3, n5, n6⟩, S, H⟩
      replace hv := hv.hold H; clear H n1 n2 n3 n4 hs1 hs2; go_wp2_with fail
      refine ho hKK ⟨(S.below.cell (p := ⟨gb, ob + k * 3, none⟩) HC.out.1).trans HC.out.2.1, (S.below.cell (p := ⟨gb, ob + k * 3 + 1, none⟩) HC.out.1).trans HC.out.2.2.1, (S.below.cell (p := ⟨gb, ob + k * 3 + 2, none⟩) HC.out.1).trans HC.out.2.2.2, S.c3 1 rfl⟩ fun hS => ?_
      clear hKK KK
      refine tk 9 hS ?_
      refine tk 10 hS ?_
      refine tk 11 hS ?_
      refine rd 12 fun KK hKK => ?_
      go_simp
      refine ho hKK hS fun hS => ?_
      clear hKK KK
      refine rd 13 fun KK hKK => ?_
      have f0 := S.f 0 (k * 3) rfl
      have f1 := S.f 0 (k * 3 + 1) rfl
      have f2 := S.f 0 (k * 3 + 2) rfl
      obtain ⟨S2, H⟩ := S.putAt 0 (.bool b3) (.slice p3 l3 K3) (.slice p4 l4 K4) rfl HQ.out.1
      have g0 := S.c 0 (k * 3) rfl (v := .bool false) (by rw [← HQ.out.1]; simp [zr3])
      have g1 := S.c 0 (k * 3 + 1) rfl (v := .slice none 0 0) (by rw [← HQ.out.1, List.getElem?_append_right (by omega)]; simp [zr3])
      have g2 := S.c 0 (k * 3 + 2) rfl (v := .slice none 0 0) (by rw [← HQ.out.1, List.getElem?_append_right (by omega)]; simp [zr3])
      clear hS; go_simp; clear S f0 f1 f2 g0 g1 g2
      replace S := S2
      clear S2
      simp only [List.set_cons_zero] at S
      refine ho hKK ⟨(S.below.cell (p := ⟨gb, ob + k * 3, none⟩) HC.out.1).trans HC.out.2.1, (S.below.cell (p := ⟨gb, ob + k * 3 + 1, none⟩) HC.out.1).trans HC.out.2.2.1, (S.below.cell (p := ⟨gb, ob + k * 3 + 2, none⟩) HC.out.1).trans HC.out.2.2.2, S.c3 1 rfl⟩ fun hS => ?_
      clear hKK KK
      refine rd 14 fun KK hKK => ?_
      go_simp
      refine ho hKK hS fun hS => ?_
      clear hKK KK
      refine wpAnyH_done (by kernel_rfl) ?_ _
      have hv2 := (hv.hold H).snoc (q := F x y) ⟨b3, p3, l3, K3, p4, l4, K4, rfl, rfl, rfl, hs3, n5.hold H, n6.hold H⟩
      clear hv H hs3 n5 n6 hS
      replace S := S.take 1 rfl
      go_wp2_with fail
      go_roundw
      case rel => exact ⟨k + 1, HQ.out.2.1, by go_num, _, by rw [zip_snoc HQ.out.2.2.2.1 HQ.out.2.2.2.2.1]; exact hv2, by rw [show n - (k + 1) = r by have := HQ.out.2.2.1; omega]; exact S⟩
      case measure => have := HQ.out.2.1; simp [intOf]; omega
    · have hki : ¬ (k : Int) < ((n : Nat) : Int) := by omega
      have hkn : k = n := by omega
      subst hkn
      rw [Nat.sub_self] at S
      rw [List.take_of_length_le (by rw [HI.out.2.2.2.1]; omega)] at hv
      simp only [zr3, List.append_nil] at S
      clear hlt hk; go_wp2_with fail
      exact bodyPost_ret (v := .tuple #[.slice (some ⟨w.heap.size, 0, none⟩) k k, .int .i64 0]) (by simp [results, Tryz.f60, go_sem]) rfl (⟨⟨_, rfl, _, vs, by rw [HI.out.2.2.2.1], Nat.le_refl _, (S.locs.get 0 rfl).2, hv⟩, S.below⟩)
end Go.Proofs.YtcfgefbkeeedgaaGreat
