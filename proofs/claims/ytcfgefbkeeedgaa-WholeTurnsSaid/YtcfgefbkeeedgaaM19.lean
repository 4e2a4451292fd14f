/-
  What the statement stands on.
-/
import Derived.Test.YtcfgefbkeeedgaaM17
import Derived.Test.YtcfgefbkeeedgaaM18
import Derived.WalkSpells
namespace Go.Proofs.Ytcfgefbkeeedgaa
open Go.RowKit
def IsRat (w : World) (v : Value) (q : Rat) : Prop := ∃ b p l K p' l' K', v = .agg #[.bool b, .slice p l K, .slice p' l' K'] ∧ Hid (negB q.num = b) ∧ IsNat w (.slice p l K) q.num.natAbs ∧ IsNat w (.slice p' l' K') q.den
theorem IsRat.hold {w w' : World} {v : Value} {q : Rat} (h : Hold w w') : IsRat w v q → IsRat w' v q
  | ⟨b, p, l, K, p', l', K', e, hb, n, d⟩ => ⟨b, p, l, K, p', l', K', e, hb, n.hold h, d.hold h⟩
instance hdI9 {w w' : World} {v : Value} {q : Rat} : Hd w w' (IsRat w v q) (IsRat w' v q) := ⟨IsRat.hold⟩
theorem IsRat.below {B : Nat} {w w' : World} {v : Value} {q : Rat} (hb : Below B w w') (hB : w.heap.size ≤ B) : IsRat w v q → IsRat w' v q
  | ⟨b, p, l, K, p', l', K', e, h, n, d⟩ => ⟨b, p, l, K, p', l', K', e, h, n.below hb hB, d.below hb hB⟩
def RB (q : Rat) (k : Nat) : Prop := q.num.natAbs < NB k ∧ q.den < NB k
theorem RB.mono {q : Rat} {a b : Nat} (h : RB q a) (hk : a ≤ b) : RB q b := ⟨nb_mono h.1 hk, nb_mono h.2 hk⟩
section
variable {ops : Array Oper} {rest : List Oper} {o : Oper} {a : Act} {Q : Exit → Act → World → Prop} {w : World}
theorem append_clone (hg : o.guard = none) (s x : Operand) (ho : o.op = .call { callee := .builtin .append, args := #[s, x], argTypes := #[28, 28] }) (w1 : World) (hw : w = w1.alloc (.cells #[] 69)) (hs : a.eval s = .slice (some ⟨w1.heap.size, 0, none⟩) 0 0)
    (n : Nat) (u : Value) (hx : a.eval x = u) (hn : IsNat w u n) (hm : n < maxN)
    (hK : ∀ v' w', IsNat w' v' n → Below w1.heap.size w1 w' → wpList Try.prog ops Q rest (a.put o.dst v') w') :
    wpList Try.prog ops Q (o :: rest) a w := by
  subst hw
  obtain ⟨ds, ⟨p, K, rfl, hat⟩, hc, hv⟩ := hn
  have hl : ds.length ≤ 512 := hc.len_max.2 (by rw [hv]; exact hm)
  obtain ⟨i0, hi, hz0, hz1, hz2⟩ := info_parts info_u32
  have hown : Own .u32 69 (w1.alloc (.cells #[] 69)) w1.heap.size (.slice (some ⟨w1.heap.size, 0, none⟩) 0 0) [] := Own.made (q := .u32) (t := 69) w1 w1.heap.size 0 [] (Nat.le_refl _) rfl (by simp)
  exact append_list hg 28 69 .u32 i0 4 Try.underlying28 hi hz0 hz1 hz2 (by decide) s x ho w1.heap.size _ [] ds hs hown p K ds.length rfl hx hat (by simp; omega) (by simp) w1.heap.size w1 ((Below.refl _ w1).alloc (Nat.le_refl _) _) (Nat.le_refl _) fun v' w' h1 h2 _ => hK v' w' ⟨ds, h1.nums, hc, hv⟩ h2
end
set_option maxRecDepth 100000 in
set_option maxHeartbeats 1000000 in
theorem clone_any {v : Value} {n : Nat} {w : World} (h : IsNat w v n) (hm : n < maxN) :
    Calls Try.prog 41 #[v] w fun e w' => (∃ u, e = .returned u ∧ IsNat w' u n) ∧ Below w.heap.size w w' := by
  obtain ⟨p, l, K, rfl⟩ := h.form
  have HN := Lib.hid (And.intro h hm)
  have hnil := fun (w : World) (a : Option Addr) (n c n' c' : Nat) => Lib.run_eql_slice_nil (P := Try.prog) w 28 69 a n c n' c' Try.underlying28
  cases p with
  | none =>
    obtain ⟨rfl, rfl⟩ : l = 0 ∧ K = 0 := by
      obtain ⟨ds, ⟨p', K', e, hat⟩, _⟩ := h
      have e1 : p' = none := by cases e; rfl
      subst e1
      rcases hat with ⟨rfl, h0⟩ | ⟨b, o, h1, _⟩
      · cases e; exact ⟨rfl, h0 rfl⟩
      · cases h1
    clear h hm
    go_enter Try.func41, Try.ntmps41
    go_wp2
    go_ret
    exact ⟨⟨_, rfl, HN.out.1⟩, Below.refl _ _⟩
  | some a =>
    clear h hm
    go_enter Try.func41, Try.ntmps41
    go_wp2_with (at_builtin; refine append_clone rfl (.tmp 5) (.tmp 6) rfl w rfl rfl n _ rfl (HN.out.1.below ((Below.refl _ w).alloc (Nat.le_refl _) _) (Nat.le_refl _)) HN.out.2 (fun v' w' hn' hB' => ?_))
    obtain ⟨p2, l2, K2, rfl⟩ := hn'.form
    have HV := Lib.hid hn'
    clear hn'; go_wp2_with fail
    exact bodyPost_ret (v := .slice p2 l2 K2) (by simp [results, Try.f41, go_sem]) rfl ⟨⟨_, rfl, HV.out⟩, hB'⟩
set_option maxRecDepth 100000 in
set_option maxHeartbeats 2000000 in
theorem rwhole_any {va : Value} {x : Int} {w : World} (ha : IsInt w va x) (hx : x.natAbs < maxN) (q : Rat) (hq : q = (x : Rat)) :
    Calls Try.prog 47 #[va] w fun e w' => (∃ u, e = .returned u ∧ IsRat w' u q) ∧ Below w.heap.size w w' := by
  obtain ⟨p1, l1, K1, rfl, n1⟩ := ha
  obtain ⟨b1, hb1⟩ : ∃ b1, negB x = b1 := ⟨_, rfl⟩
  rw [hb1]
  have HD := Lib.hid (And.intro hb1 (And.intro hx hq))
  clear hb1 hx hq
  have S := ((St.start w).alloc 30 [.bool b1, .slice p1 l1 K1] (w.heap.size)).alloc 32 [.bool false, .slice none 0 0, .slice none 0 0] (w.heap.size + 1)
  try simp only [List.cons_append, List.nil_append] at S
  replace n1 := n1.hold S.hold
  have c0_0 := S.c 0 0 rfl rfl; have c0_1 := S.c 0 1 rfl rfl; obtain ⟨c1_0, c1_1, c1_2⟩ := S.c3 1 rfl
  go_enter Try.func47, Try.ntmps47
  go_upto_region 1 with fail
  clear c0_0 c0_1 c1_0 c1_1 c1_2
  generalize ((w.alloc (.cells #[.bool b1, .slice p1 l1 K1] 30)).alloc (.cells #[.bool false, .slice none 0 0, .slice none 0 0] 32)) = w1 at S n1 ⊢
  go_cut [3] (fun s3 wx => ∃ g3 p l K, s3 = .pointer (some ⟨g3, 0, none⟩) ∧ St w wx [(w.heap.size, 30, [.bool b1, .slice p1 l1 K1]), (w.heap.size + 1, 32, [.bool false, .slice none 0 0, .slice none 0 0]), (g3, 30, [.bool b1, .slice p l K])] ∧ IsNat wx (.slice p l K) x.natAbs ∧ Hold w1 wx)
  case first =>
    have HH := Hold.drew w1
    replace n1 := n1.hold HH
    replace S := S.drew
    refine wp_region_held_drew (S := fun W => W.cell? ⟨w.heap.size, 0, none⟩ = some (.bool b1) ∧ W.cell? ⟨w.heap.size, 1, none⟩ = some (.slice p1 l1 K1)) (by kernel_rfl) ⟨(S.c 0 0 rfl rfl), (S.c 0 1 rfl rfl)⟩ (fun hS => ?_)
    generalize w1.drew = w2 at S n1 HH hS ⊢
    refine tk 0 hS ?_
    refine tk 1 hS ?_
    refine tk 2 hS ?_
    refine tk 3 hS ?_
    refine wpAnyH_ready (rs := [4, 6]) (by kernel_rfl) (by simp) (AllReadyH.cons (opOf rfl) (fun KK hKK => ?_) (AllReadyH.cons (opOf rfl) (fun KK hKK => ?_) AllReadyH.nil))
    ·
      go_simp; clear hS
      refine (S.call (clone_any n1 HD.out.2.1)).mono ?_
      clear S
      rintro e w3 ⟨⟨_, rfl, nv⟩, S, H⟩
      replace n1 := n1.hold H; replace HH := HH.trans H; clear H
      obtain ⟨p, l, K, rfl⟩ := nv.form
      go_wp2_with fail
      refine ho hKK ⟨(S.c 0 0 rfl rfl), (S.c 0 1 rfl rfl)⟩ fun hS => ?_
      clear hKK KK
      refine tk 5 hS ?_
      refine rd 6 fun KK hKK => ?_
      go_simp; clear hS
      have H := S.hnew 30 [.bool false, .slice none 0 0]
      replace S := S.al 30 [.bool false, .slice none 0 0] (w3.heap.size)
      replace n1 := n1.hold H; replace nv := nv.hold H; replace HH := HH.trans H; clear H
      refine ho hKK ⟨(S.c 0 0 rfl rfl), (S.c 0 1 rfl rfl)⟩ fun hS => ?_
      generalize (w3.alloc (.cells #[.bool false, .slice none 0 0] 30)) = w4 at S n1 nv HH hS ⊢
      clear hKK KK
      refine rd 7 fun KK hKK => ?_
      have c0 := S.c 2 0 rfl rfl; have f0 := S.f 2 0 rfl; have c1 := S.c 2 1 rfl rfl; have f1 := S.f 2 1 rfl; go_simp; clear hS c0 f0 c1 f1
      have H := S.hset 2 0 (.bool b1) rfl rfl (by intro q n e; cases e)
      replace S := S.set 2 0 (.bool b1) rfl
      replace n1 := n1.hold H; replace nv := nv.hold H; replace HH := HH.trans H; clear H
      have H := S.hset 2 1 (.slice p l K) rfl rfl (by intro q n e; cases e)
      replace S := S.set 2 1 (.slice p l K) rfl
      replace n1 := n1.hold H; replace nv := nv.hold H; replace HH := HH.trans H; clear H
      refine ho hKK ⟨(S.c 0 0 rfl rfl), (S.c 0 1 rfl rfl)⟩ fun hS => ?_
      generalize ((w4.setCell ⟨w3.heap.size, 0, none⟩ (.bool b1)).setCell ⟨w3.heap.size, 1, none⟩ (.slice p l K)) = w5 at S n1 nv HH hS ⊢
      clear hKK KK
      refine wpAnyH_done (by kernel_rfl) ?_ _
      go_wp2_with fail
      go_meet
      case rel => exact ⟨w3.heap.size, p, l, K, rfl, S, nv, HH⟩
    ·
      go_simp; clear hS
      have H := S.hnew 30 [.bool false, .slice none 0 0]
      replace S := S.al 30 [.bool false, .slice none 0 0] (w2.heap.size)
      replace n1 := n1.hold H; replace HH := HH.trans H; clear H
      refine ho hKK ⟨(S.c 0 0 rfl rfl), (S.c 0 1 rfl rfl)⟩ fun hS => ?_
      generalize (w2.alloc (.cells #[.bool false, .slice none 0 0] 30)) = w6 at S n1 HH hS ⊢
      clear hKK KK
      refine rd 4 fun KK hKK => ?_
      go_simp; clear hS
      refine (S.call (clone_any n1 HD.out.2.1)).mono ?_
      clear S
      rintro e w7 ⟨⟨_, rfl, nv⟩, S, H⟩
      replace n1 := n1.hold H; replace HH := HH.trans H; clear H
      obtain ⟨p, l, K, rfl⟩ := nv.form
      go_wp2_with fail
      refine ho hKK ⟨(S.c 0 0 rfl rfl), (S.c 0 1 rfl rfl)⟩ fun hS => ?_
      clear hKK KK
      refine tk 5 hS ?_
      refine rd 7 fun KK hKK => ?_
      have c0 := S.c 2 0 rfl rfl; have f0 := S.f 2 0 rfl; have c1 := S.c 2 1 rfl rfl; have f1 := S.f 2 1 rfl; go_simp; clear hS c0 f0 c1 f1
      have H := S.hset 2 0 (.bool b1) rfl rfl (by intro q n e; cases e)
      replace S := S.set 2 0 (.bool b1) rfl
      replace n1 := n1.hold H; replace nv := nv.hold H; replace HH := HH.trans H; clear H
      have H := S.hset 2 1 (.slice p l K) rfl rfl (by intro q n e; cases e)
      replace S := S.set 2 1 (.slice p l K) rfl
      replace n1 := n1.hold H; replace nv := nv.hold H; replace HH := HH.trans H; clear H
      refine ho hKK ⟨(S.c 0 0 rfl rfl), (S.c 0 1 rfl rfl)⟩ fun hS => ?_
      generalize ((w7.setCell ⟨w2.heap.size, 0, none⟩ (.bool b1)).setCell ⟨w2.heap.size, 1, none⟩ (.slice p l K)) = w8 at S n1 nv HH hS ⊢
      clear hKK KK
      refine wpAnyH_done (by kernel_rfl) ?_ _
      go_wp2_with fail
      go_meet
      case rel => exact ⟨w2.heap.size, p, l, K, rfl, S, nv, HH⟩
  case rest =>
    obtain ⟨g3, p, l, K, rfl, S, nv, HH⟩ := hcut
    obtain ⟨w9, rfl⟩ : ∃ W : World, W = wc := ⟨_, rfl⟩
    replace n1 := n1.hold HH; clear HH; have c0_0 := S.c 0 0 rfl rfl; have c0_1 := S.c 0 1 rfl rfl; obtain ⟨c1_0, c1_1, c1_2⟩ := S.c3 1 rfl; have c2_0 := S.c 2 0 rfl rfl; have c2_1 := S.c 2 1 rfl rfl
    go_upto_region 2 with fail
    clear c0_0 c0_1 c1_0 c1_1 c1_2 c2_0 c2_1
    have HH := Hold.drew w9
    replace n1 := n1.hold HH; replace nv := nv.hold HH
    replace S := S.drew
    refine wp_region_held_drew (S := fun W => W.cell? ⟨g3, 0, none⟩ = some (.bool b1) ∧ W.cell? ⟨g3, 1, none⟩ = some (.slice p l K)) (by kernel_rfl) ⟨(S.c 2 0 rfl rfl), (S.c 2 1 rfl rfl)⟩ (fun hS => ?_)
    generalize w9.drew = w10 at S n1 nv HH hS ⊢
    refine tk 0 hS ?_
    refine rd 1 fun KK hKK => ?_
    go_simp; clear hS
    refine (S.call (of_any 1 _ (by decide))).mono ?_
    clear S
    rintro e w11 ⟨⟨_, rfl, no⟩, S, H⟩
    replace n1 := n1.hold H; replace nv := nv.hold H; replace HH := HH.trans H; clear H
    obtain ⟨pd, ld, Kd, rfl⟩ := no.form
    go_wp2_with fail
    refine ho hKK ⟨(S.c 2 0 rfl rfl), (S.c 2 1 rfl rfl)⟩ fun hS => ?_
    clear hKK KK
    refine tk 2 hS ?_
    refine rd 3 fun KK hKK => ?_
    obtain ⟨c0, c1, c2⟩ := S.c3 1 rfl; obtain ⟨f0, f1, f2⟩ := S.f3 1 rfl
    go_simp; clear hS c0 f0 c1 f1 c2 f2
    have HP := S.putq 1 (.bool b1) (.slice p l K) (.slice pd ld Kd) rfl rfl; have H := HP.2; replace S := HP.1; clear HP
    refine iv3 H n1 nv no ?_; clear n1 nv no; intro n1 nv no; replace HH := HH.trans H; clear H
    refine ho hKK ⟨(S.c 2 0 rfl rfl), (S.c 2 1 rfl rfl)⟩ fun hS => ?_
    generalize (((w11.setCell ⟨w.heap.size + 1, 0, none⟩ (.bool b1)).setCell ⟨w.heap.size + 1, 1, none⟩ (.slice p l K)).setCell ⟨w.heap.size + 1, 2, none⟩ (.slice pd ld Kd)) = w12 at S n1 nv no HH hS ⊢
    clear hKK KK
    refine wpAnyH_done (by kernel_rfl) ?_ _
    clear hS HH; have c0_0 := S.c 0 0 rfl rfl; have c0_1 := S.c 0 1 rfl rfl; obtain ⟨c1_0, c1_1, c1_2⟩ := S.c3 1 rfl; have c2_0 := S.c 2 0 rfl rfl; have c2_1 := S.c 2 1 rfl rfl; go_wp2_with fail; obtain ⟨d1_0, d1_1, d1_2⟩ := S.c3 1 rfl
    exact bodyPost_ret (v := .agg #[.bool b1, .slice p l K, .slice pd ld Kd]) (by simp [results, Try.f47, go_sem, d1_0, d1_1, d1_2]) rfl (⟨⟨_, rfl, b1, p, l, K, pd, ld, Kd, rfl, by rw [HD.out.2.2]; exact HD.out.1, by rw [HD.out.2.2]; exact nv, by rw [HD.out.2.2]; exact no⟩, S.below⟩)
theorem IsInt.zero (w : World) : IsInt w (.agg #[.bool false, .slice none 0 0]) 0 := ⟨none, 0, 0, rfl, ⟨[], .nil _ _, Can.nil _, rfl⟩⟩
set_option maxRecDepth 100000 in
set_option maxHeartbeats 1000000 in
theorem rzero_any (w : World) : Calls Try.prog 26 #[] w fun e w' => (∃ u, e = .returned u ∧ IsRat w' u 0) ∧ Below w.heap.size w w' := by
  have HM := Lib.hid (lt_maxN (m := 0) (by decide))
  have S := (St.start w).alloc 32 [.bool false, .slice none 0 0, .slice none 0 0] (w.heap.size)
  try simp only [List.nil_append] at S
  obtain ⟨c0_0, c0_1, c0_2⟩ := S.c3 0 rfl
  go_enter Try.func26, Try.ntmps26
  go_wp2_with fail; clear c0_0 c0_1 c0_2
  refine (S.call (rwhole_any (IsInt.zero _) HM.out 0 rfl)).mono ?_
  clear S
  rintro e w1 ⟨⟨_, rfl, b, p, l, K, pd, ld, Kd, rfl, hb, nn, nd⟩, S, H⟩
  clear H; obtain ⟨c0_0, c0_1, c0_2⟩ := S.c3 0 rfl
  obtain ⟨f0_0, f0_1, f0_2⟩ := S.f3 0 rfl
  have HP := S.putq 0 (.bool b) (.slice p l K) (.slice pd ld Kd) rfl rfl; have H := HP.2; replace S := HP.1; clear HP
  replace nn := nn.hold H; replace nd := nd.hold H
  clear H; go_wp2_with fail; obtain ⟨d0_0, d0_1, d0_2⟩ := S.c3 0 rfl
  exact bodyPost_ret (v := .agg #[.bool b, .slice p l K, .slice pd ld Kd]) (by simp [results, Try.f26, go_sem, d0_0, d0_1, d0_2]) rfl (⟨⟨_, rfl, b, p, l, K, pd, ld, Kd, rfl, hb, nn, nd⟩, S.below⟩)
theorem RL.snoc {w : World} {vs : List Value} {qs : List Rat} {v0 v1 v2 : Value} {q : Rat} (h : RL w vs qs) (h1 : RatV w v0 v1 v2 q) : RL w (vs ++ [v0, v1, v2]) (qs ++ [q]) := h.app ⟨h1, trivial⟩
def FreshR (w w' : World) (v : Value) (qs : List Rat) : Prop := ∃ g vs, v = .slice (some ⟨g, 0, none⟩) qs.length qs.length ∧ w.heap.size ≤ g ∧ w'.heap[g]? = some (.cells vs.toArray 32 (0, 0)) ∧ RL w' vs qs
set_option maxRecDepth 100000 in
set_option maxHeartbeats 4000000 in
theorem vzero_any (n : Nat) (hn : n ≤ 16) (w : World) :
    Calls Try.prog 11 #[.int .i64 n] w fun e w' => (∃ v, e = .returned v ∧ FreshR w w' v (List.replicate n 0)) ∧ Below w.heap.size w w' := by
  have m1 : max ((n : Nat) : Int) 0 = n := by omega
  have m2 : min ((n : Nat) : Int) 16 = n := by omega
  have S := St.start w
  go_enter Try.func11, Try.ntmps11
  go_upto_region 2 with (at_make; refine make_rats S rfl _ _ rfl _ _ n rfl rfl ?hL ?hC ?hn (fun w3 S3 hB3 => ?_))
  case hL => simp [m1, m2]
  case hC => simp [m1, m2]
  case hn => omega
  simp only [List.nil_append] at S3
  replace S := S3
  clear S3 hB3; go_wp2_with fail
  go_loopw [11] (fun si wr => ∃ k : Nat, k ≤ n ∧ si = .int .i64 k ∧ ∃ vs, RL wr vs (List.replicate k 0) ∧ St w wr [(w.heap.size, 32, vs ++ zr3 (n - k))]) (fun si _ => n - (intOf si).toNat)
  case atStart => exact ⟨0, by omega, rfl, [], trivial, S⟩
  case round =>
    clear S
    obtain ⟨k, hk, rfl, vs, hv, S⟩ := hrel
    by_cases hlt : k < n
    · obtain ⟨r, hr⟩ : ∃ r, n - k = r + 1 := ⟨n - k - 1, by omega⟩
      rw [hr] at S
      have hl : vs.length = k * 3 := by simpa using hv.len
      have HQ := Lib.hid (And.intro hl (And.intro hlt hr))
      have hki : (k : Int) < ((n : Nat) : Int) := by omega
      clear hr hlt hl hk; go_wp2_with fail
      refine (S.call (rzero_any _)).mono ?_
      rintro e w1 ⟨⟨_, rfl, b, p1, l1, K1, p2, l2, K2, rfl, hs, n1, n2⟩, S', H⟩
      replace hv := hv.hold H; clear S H
      have f0 := S'.f 0 (k * 3) rfl
      have f1 := S'.f 0 (k * 3 + 1) rfl
      have f2 := S'.f 0 (k * 3 + 2) rfl
      obtain ⟨S, H⟩ := S'.putAt 0 (.bool b) (.slice p1 l1 K1) (.slice p2 l2 K2) rfl HQ.out.1
      have g0 := S'.c 0 (k * 3) rfl (v := .bool false) (by rw [← HQ.out.1]; simp [zr3])
      have g1 := S'.c 0 (k * 3 + 1) rfl (v := .slice none 0 0) (by rw [← HQ.out.1, List.getElem?_append_right (by omega)]; simp [zr3])
      have g2 := S'.c 0 (k * 3 + 2) rfl (v := .slice none 0 0) (by rw [← HQ.out.1, List.getElem?_append_right (by omega)]; simp [zr3])
      clear S'
      go_upto_region 6 with fail
      have hv2 := (hv.hold H).snoc (q := 0) ⟨b, p1, l1, K1, p2, l2, K2, rfl, rfl, rfl, hs, n1.hold H, n2.hold H⟩
      clear hv H hs n1 n2 g0 g1 g2 f0 f1 f2; go_wp2_with fail
      go_roundw
      case rel => exact ⟨k + 1, HQ.out.2.1, by go_num, _, by rw [List.replicate_succ']; exact hv2, by rw [show n - (k + 1) = r by have := HQ.out.2.2; omega]; exact S⟩
      case measure => have := HQ.out.2.1; simp [intOf]; omega
    · have hki : ¬ (k : Int) < ((n : Nat) : Int) := by omega
      have hkn : k = n := by omega
      subst hkn
      rw [Nat.sub_self] at S
      simp only [zr3, List.append_nil] at S
      clear hlt hk; go_wp2_with fail
      exact bodyPost_ret (v := .slice (some ⟨w.heap.size, 0, none⟩) k k) (by simp [results, Try.f11, go_sem]) rfl (⟨⟨_, rfl, _, vs, by rw [List.length_replicate], Nat.le_refl _, (S.locs.get 0 rfl).2, hv⟩, S.below⟩)
set_option maxRecDepth 100000 in
set_option maxHeartbeats 4000000 in
theorem tof_yes {va : Value} {A : List (List Rat)} {w : World} (h : Tabs2 w va A) (n m : Nat) (hn : A.length = n) (hn9 : n ≤ 1000000) (hm : ∀ r, r ∈ A → r.length = m) :
    Calls Try.prog 39 #[va, .int .i64 m] w fun e w' => e = .returned (.bool true) ∧ Below w.heap.size w w' := by
  obtain ⟨p, c, rfl⟩ := h.form
  rw [hn] at h ⊢
  have HI := Lib.hid (And.intro h hm)
  clear h hm
  have S := St.start w
  go_enter Try.func39, Try.ntmps39
  go_wp2_with fail
  go_loopw [9] (fun si wr => ∃ k : Nat, k ≤ n ∧ si = .int .i64 k ∧ St w wr []) (fun si _ => n - (intOf si).toNat)
  case atStart => exact ⟨0, by omega, rfl, S⟩
  case round =>
    clear S
    obtain ⟨k, hk, rfl, S⟩ := hrel
    by_cases hlt : k < n
    · obtain ⟨g, off, row, q, d, rfl, hg, hr, a0, _⟩ := HI.out.1.get hlt
      replace a0 := (S.below.cell (p := ⟨g, off + k, none⟩) hg).trans a0
      rw [HI.out.2 row (List.mem_of_getElem? hr)] at a0
      have hki : (k : Int) < ((n : Nat) : Int) := by omega
      have hk9 : (k : Int) ≤ 1000000 := by omega
      have e1 : (((m : Nat) : Int) == ((m : Nat) : Int)) = true := by simp
      have e2 : (((m : Nat) : Int) != ((m : Nat) : Int)) = false := by simp
      have HQ := Lib.hid hlt
      clear hg hr hlt hk; go_wp2_with fail
      go_roundw
      case rel => exact ⟨k + 1, HQ.out, by go_num, S⟩
      case measure => have := HQ.out; simp [intOf]; omega
    · have hki : ¬ (k : Int) < ((n : Nat) : Int) := by omega
      clear hlt; go_wp2_with fail
      exact bodyPost_ret (v := .bool true) (by simp [results, Try.f39, go_sem]) rfl (⟨rfl, S.below⟩)
def colsL (A : List (List Rat)) : Nat := (A.head?.map List.length).getD 0
set_option maxRecDepth 100000 in
set_option maxHeartbeats 4000000 in
theorem tcols_any {va : Value} {A : List (List Rat)} {w : World} (h : Tabs2 w va A) (n : Nat) (hn : A.length = n) :
    Calls Try.prog 40 #[va] w fun e w' => e = .returned (.int .i64 (colsL A)) ∧ Below w.heap.size w w' := by
  obtain ⟨p, c, rfl⟩ := h.form
  cases A with
  | nil =>
    subst hn
    clear h
    have S := St.start w
    go_enter Try.func40, Try.ntmps40
    go_wp2_with fail
    exact bodyPost_ret (v := .int .i64 0) (by simp [results, Try.f40, go_sem]) rfl (⟨rfl, S.below⟩)
  | cons r A =>
    rw [hn] at h ⊢
    have hn0 : 0 < n := by simp at hn; omega
    obtain ⟨g, off, row, q, d, rfl, hg, hr, a0, _⟩ := h.get hn0
    simp at hr
    subst hr
    have hni : (0 : Int) < ((n : Nat) : Int) := by omega
    have e1 : (((n : Nat) : Int) == 0) = false := by simp; omega
    have h0 : w.cell? ⟨g, off, none⟩ = some (.slice q r.length d) := a0
    clear h hn hn0 a0
    have S := St.start w
    go_enter Try.func40, Try.ntmps40
    go_wp2_with fail
    exact bodyPost_ret (v := .int .i64 r.length) (by simp [results, Try.f40, go_sem]) rfl (⟨rfl, S.below⟩)
set_option maxRecDepth 100000 in
set_option maxHeartbeats 4000000 in
theorem teven_yes {va : Value} {A : List (List Rat)} {w : World} (h : Tabs2 w va A) (n : Nat) (hn : A.length = n) (hn9 : n ≤ 1000000) (hm : ∀ r, r ∈ A → r.length = colsL A) :
    Calls Try.prog 20 #[va] w fun e w' => e = .returned (.bool true) ∧ Below w.heap.size w w' := by
  have HV := Lib.hid (And.intro h (And.intro hn (And.intro hn9 hm)))
  clear h hn hn9 hm
  have S := St.start w
  go_enter Try.func20, Try.ntmps20
  go_wp2_with fail
  refine (S.call (tcols_any HV.out.1 _ HV.out.2.1)).mono ?_
  clear S
  rintro e w1 ⟨rfl, S, H⟩
  clear H; go_wp2_with fail
  refine (S.call (tof_yes (HV.out.1.to S.below) _ _ HV.out.2.1 HV.out.2.2.1 HV.out.2.2.2)).mono ?_
  clear S
  rintro e w2 ⟨rfl, S, H⟩
  clear H; go_wp2_with fail
  exact bodyPost_ret (v := .bool true) (by simp [results, Try.f20, go_sem]) rfl (⟨rfl, S.below⟩)
def colL (A : List (List Rat)) (k : Nat) : List Rat := A.map (fun r => r.getD k 0)
theorem colL_len (A : List (List Rat)) (k : Nat) : (colL A k).length = A.length := by simp [colL]
def Cols (w : World) : List (Nat × TypeId × List Value) → List Value → List (List Rat) → Prop
  | [], [], [] => True
  | (g, t, cs) :: C, v :: vs, qs :: qss => (t = 32 ∧ v = .slice (some ⟨g, 0, none⟩) qs.length qs.length ∧ RL w cs qs) ∧ Cols w C vs qss
  | _, _, _ => False
theorem Cols.hold {w w' : World} (H : Hold w w') : ∀ {C vs qss}, Cols w C vs qss → Cols w' C vs qss
  | [], [], [], _ => trivial
  | (_, _, _) :: _, _ :: _, _ :: _, ⟨⟨h1, h2, h3⟩, h⟩ => ⟨⟨h1, h2, h3.hold H⟩, Cols.hold H h⟩
instance hdI40 {w w' : World} {C : List (Nat × TypeId × List Value)} {vs : List Value} {qss : List (List Rat)} : Hd w w' (Cols w C vs qss) (Cols w' C vs qss) := ⟨fun h => Cols.hold h⟩
theorem Cols.len {w : World} : ∀ {C vs qss}, Cols w C vs qss → vs.length = qss.length ∧ C.length = qss.length
  | [], [], [], _ => ⟨rfl, rfl⟩
  | (_, _, _) :: _, _ :: _, _ :: _, ⟨_, h⟩ => ⟨by simp [(Cols.len h).1], by simp [(Cols.len h).2]⟩
theorem Cols.snoc {w : World} {g n : Nat} {cs : List Value} {qs : List Rat} (hr : RL w cs qs) (hn : qs.length = n) : ∀ {C vs qss}, Cols w C vs qss → Cols w (C ++ [(g, 32, cs)]) (vs ++ [.slice (some ⟨g, 0, none⟩) n n]) (qss ++ [qs])
  | [], [], [], _ => ⟨⟨rfl, by rw [hn], hr⟩, trivial⟩
  | (_, _, _) :: _, _ :: _, _ :: _, ⟨h1, h⟩ => ⟨h1, Cols.snoc hr hn h⟩
theorem set_snoc {α : Type} (z : α) : ∀ (C : List α) (y : α), (C ++ [y]).set C.length z = C ++ [z]
  | [], _ => rfl
  | c :: C, y => by simp [set_snoc z C y]
set_option maxRecDepth 100000 in
set_option maxHeartbeats 4000000 in
theorem tturned_any {va : Value} {A : List (List Rat)} {w : World} (h : Tabs2 w va A) (n m : Nat) (hn : A.length = n) (hn9 : n ≤ 1000000) (hc : colsL A = m) (hm9 : m ≤ 1000000) (hm : ∀ r, r ∈ A → r.length = m) :
    Calls Try.prog 21 #[va] w fun e w' => (∃ g C vs, e = .returned (.slice (some ⟨g, 0, none⟩) m m) ∧ Cols w' C vs ((List.range m).map (colL A)) ∧ Locs w' w.heap.size ((g, 22, vs) :: C)) ∧ Below w.heap.size w w' := by
  obtain ⟨p, c, rfl⟩ := h.form
  rw [hn] at h ⊢
  have HI := Lib.hid (And.intro h (And.intro hm (And.intro hn9 (And.intro hm9 hn))))
  have HC := Lib.hid (fun (W : World) (hB : Below w.heap.size w W) => tcols_any (h.to hB) n hn)
  have HM := Lib.hid hc
  clear h hm hn9 hn hc
  have S := St.start w
  go_enter Try.func21, Try.ntmps21
  go_wp2_with fail
  refine (S.call (HC.out _ S.below)).mono ?_
  clear S
  rintro e w1 ⟨rfl, S, H⟩
  clear H
  rw [HM.out]
  go_upto_region 2 with (at_make; refine make_lists _ (by kernel_rfl) S rfl _ _ rfl _ _ m rfl rfl ?hL ?hC ?hn (fun w3 S3 hB3 => ?_))
  case hL => rfl
  case hC => rfl
  case hn => omega
  simp only [List.nil_append] at S3
  replace S := S3
  clear S3 hB3
  generalize w1.heap.size = g0 at S ⊢
  go_wp2_with fail
  go_loopw [12] (fun si wr => ∃ k : Nat, k ≤ m ∧ si = .int .i64 k ∧ ∃ C vs, Cols wr C vs ((List.range k).map (colL A)) ∧ St w wr ((g0, 22, vs ++ List.replicate (m - k) (Value.slice none 0 0)) :: C)) (fun si _ => m - (intOf si).toNat)
  case atStart => exact ⟨0, by omega, rfl, [], [], trivial, S⟩
  case round =>
    clear S
    obtain ⟨k, hk, rfl, C, vs, hC, S⟩ := hrel
    by_cases hlt : k < m
    · obtain ⟨r, hr⟩ : ∃ r, m - k = r + 1 := ⟨m - k - 1, by omega⟩
      rw [hr] at S
      have hl : vs.length = k := by simpa using hC.len.1
      have HQ := Lib.hid (And.intro hl (And.intro hlt hr))
      have hki : (k : Int) < ((m : Nat) : Int) := by omega
      have hk9 : (k : Int) ≤ 1000000 := by omega
      clear hr hlt hl hk
      go_upto_region 6 with (at_make; refine make_rats S rfl _ _ rfl _ _ n rfl rfl rfl rfl (by have := HI.out.2.2.1; omega) (fun w3 S3 hB3 => ?_); have f0 := S3.f 0 k rfl; have HP := S3.putAtL 0 (.slice (some ⟨wr.heap.size, 0, none⟩) n n) rfl HQ.out.1; have g1 := S3.c 0 k rfl (v := .slice none 0 0) (by rw [← HQ.out.1]; simp))
      clear g1 f0 S3
      obtain ⟨S3, H⟩ := HP
      replace hC := (hC.hold (Hold.of_below hB3)).hold H
      clear H hB3 S
      generalize wr.heap.size = gk at S3 hC ⊢
      have S : St w _ ((g0, 22, (vs ++ [.slice (some ⟨gk, 0, none⟩) n n]) ++ List.replicate r (Value.slice none 0 0)) :: (C ++ [(gk, 32, zr3 n)])) := S3
      clear S3; go_wp2_with fail
      go_loopw [23] (fun si wi => ∃ i : Nat, i ≤ n ∧ si = .int .i64 i ∧ ∃ ws, RL wi ws (colL (A.take i) k) ∧ Cols wi C vs ((List.range k).map (colL A)) ∧ St w wi ((g0, 22, (vs ++ [.slice (some ⟨gk, 0, none⟩) n n]) ++ List.replicate r (Value.slice none 0 0)) :: (C ++ [(gk, 32, ws ++ zr3 (n - i))]))) (fun si _ => n - (intOf si).toNat)
      case atStart => exact ⟨0, by omega, rfl, [], trivial, hC, S⟩
      case round =>
        clear S hC
        obtain ⟨i, hi, rfl, ws, hv, hC, S⟩ := hrel
        by_cases hli : i < n
        · obtain ⟨r2, hr2⟩ : ∃ r2, n - i = r2 + 1 := ⟨n - i - 1, by omega⟩
          rw [hr2] at S
          have hl : ws.length = i * 3 := by
            have := hv.len
            rw [colL_len, List.length_take, HI.out.2.2.2.2, Nat.min_eq_left (by omega)] at this
            exact this
          obtain ⟨g, off, row, q, d, rfl, hg, hrow, a0, hR⟩ := HI.out.1.get hli
          have hml := HI.out.2.1 row (List.mem_of_getElem? hrow)
          rw [hml] at a0 hR
          obtain ⟨g2, off2, x, v0, v1, v2, rfl, hg2, hx, b0, b1, b2, b, p1, l1, K1, p2, l2, K2, rfl, rfl, rfl, hb, n1, n2⟩ := hR.get HQ.out.2.1
          have hcol : colL (A.take (i + 1)) k = colL (A.take i) k ++ [x] := by
            simp [colL, List.take_add_one, hrow, List.getD, hx]
          have a0' := (S.below.cell (p := ⟨g, off + i, none⟩) hg).trans a0
          have HA := Lib.hid (And.intro hg2 (And.intro b0 (And.intro b1 b2)))
          have HZ := Lib.hid (And.intro hl (And.intro hli (And.intro hr2 (And.intro hcol (And.intro hC.len.2 (And.intro n1 n2))))))
          have hii : (i : Int) < ((n : Nat) : Int) := by omega
          have hi9 : (i : Int) ≤ 1000000 := by have := HI.out.2.2.1; omega
          clear hl hr2 hi hg hrow a0 hR hml hg2 hx b0 b1 b2 n1 n2 hcol
          go_upto_region 9 with fail
          clear a0'
          replace S := S.drew
          replace hC := hC.hold (Hold.drew _)
          replace hv := hv.hold (Hold.drew _)
          refine wp_region_held_drew (S := fun W => W.cell? ⟨g0, k, none⟩ = some (.slice (some ⟨gk, 0, none⟩) n n) ∧ W.cell? ⟨g2, off2 + k * 3, none⟩ = some (.bool b) ∧ W.cell? ⟨g2, off2 + k * 3 + 1, none⟩ = some (.slice p1 l1 K1) ∧ W.cell? ⟨g2, off2 + k * 3 + 2, none⟩ = some (.slice p2 l2 K2)) (by kernel_rfl) ⟨S.c 0 k rfl (by rw [← HQ.out.1]; simp), (S.below.cell (p := ⟨g2, off2 + k * 3, none⟩) HA.out.1).trans HA.out.2.1, (S.below.cell (p := ⟨g2, off2 + k * 3 + 1, none⟩) HA.out.1).trans HA.out.2.2.1, (S.below.cell (p := ⟨g2, off2 + k * 3 + 2, none⟩) HA.out.1).trans HA.out.2.2.2⟩ (fun hS => ?_)
          generalize wr.drew = wd at S hC hv hS ⊢
          refine tk 0 hS ?_
          refine tk 1 hS ?_
          refine tk 2 hS ?_
          refine tk 3 hS ?_
          refine tk 4 hS ?_
          refine tk 5 hS ?_
          refine tk 6 hS ?_
          refine tk 7 hS ?_
          refine tk 8 hS ?_
          refine tk 9 hS ?_
          have e1 : ((g0, 22, (vs ++ [.slice (some ⟨gk, 0, none⟩) n n]) ++ List.replicate r (Value.slice none 0 0)) :: (C ++ [(gk, 32, ws ++ zr3 (r2 + 1))]))[C.length + 1]? = some (gk, 32, ws ++ zr3 (r2 + 1)) := by simp
          have f0 := S.f (C.length + 1) (i * 3) e1
          have f1 := S.f (C.length + 1) (i * 3 + 1) e1
          have f2 := S.f (C.length + 1) (i * 3 + 2) e1
          have g0' := S.c (C.length + 1) (i * 3) e1 (v := .bool false) (by rw [← HZ.out.1]; simp [zr3])
          have g1' := S.c (C.length + 1) (i * 3 + 1) e1 (v := .slice none 0 0) (by rw [← HZ.out.1, List.getElem?_append_right (by omega)]; simp [zr3])
          have g2' := S.c (C.length + 1) (i * 3 + 2) e1 (v := .slice none 0 0) (by rw [← HZ.out.1, List.getElem?_append_right (by omega)]; simp [zr3])
          have HP := S.putAt (C.length + 1) (.bool b) (.slice p1 l1 K1) (.slice p2 l2 K2) e1 HZ.out.1
          refine rd 10 fun KK hKK => ?_
          go_simp; clear hS S f0 f1 f2 g0' g1' g2' e1
          obtain ⟨S3, H⟩ := HP
          rw [List.set_cons_succ, set_snoc] at S3
          have S := S3
          clear S3
          refine ho hKK ⟨S.c 0 k rfl (by rw [← HQ.out.1]; simp), (S.below.cell (p := ⟨g2, off2 + k * 3, none⟩) HA.out.1).trans HA.out.2.1, (S.below.cell (p := ⟨g2, off2 + k * 3 + 1, none⟩) HA.out.1).trans HA.out.2.2.1, (S.below.cell (p := ⟨g2, off2 + k * 3 + 2, none⟩) HA.out.1).trans HA.out.2.2.2⟩ fun hS => ?_
          clear hKK KK
          refine wpAnyH_done (by kernel_rfl) ?_ _
          clear hS; replace hC := hC.hold H
          replace hv := (hv.hold H).snoc (q := x) ⟨b, p1, l1, K1, p2, l2, K2, rfl, rfl, rfl, hb, HZ.out.2.2.2.2.2.1.hold (Hold.of_below S.below), HZ.out.2.2.2.2.2.2.hold (Hold.of_below S.below)⟩
          clear H; go_wp2_with fail
          go_roundw
          case rel => exact ⟨i + 1, HZ.out.2.1, by go_num, _, by rw [HZ.out.2.2.2.1]; exact hv, hC, by rw [show n - (i + 1) = r2 by have := HZ.out.2.2.1; omega]; exact S⟩
          case measure => have := HZ.out.2.1; simp [intOf]; omega
        · have hii : ¬ (i : Int) < ((n : Nat) : Int) := by omega
          have hin : n - i = 0 := by omega
          rw [hin] at S
          simp only [zr3, List.append_nil] at S
          have hti : colL (A.take i) k = colL A k := by rw [List.take_of_length_le (by have := HI.out.2.2.2.2; omega)]
          rw [hti] at hv
          have hC2 := Cols.snoc (g := gk) (n := n) hv (by rw [colL_len]; exact HI.out.2.2.2.2) hC
          clear hli hi hin hti hv hC; go_wp2_with fail
          go_roundw
          case rel => exact ⟨k + 1, HQ.out.2.1, by go_num, _, _, by rw [List.range_succ, List.map_append]; exact hC2, by rw [show m - (k + 1) = r by have := HQ.out.2.2; omega]; exact S⟩
          case measure => have := HQ.out.2.1; simp [intOf]; omega
    · have hki : ¬ (k : Int) < ((m : Nat) : Int) := by omega
      have hkn : k = m := by omega
      subst hkn
      rw [Nat.sub_self] at S
      simp only [List.replicate, List.append_nil] at S
      clear hlt hk; go_wp2_with fail
      exact bodyPost_ret (v := .slice (some ⟨g0, 0, none⟩) k k) (by simp [results, Try.f21, go_sem]) rfl (⟨⟨g0, rfl, C, vs, hC, S.locs⟩, S.below⟩)
set_option maxRecDepth 100000 in
set_option maxHeartbeats 4000000 in
theorem mcopied_any {va : Value} {x : Rat} {w : World} (ha : IsRat w va x) (hn : x.num.natAbs < maxN) (hd : x.den < maxN) :
    Calls Try.prog 22 #[va] w fun e w' => (∃ u, e = .returned u ∧ IsRat w' u x) ∧ Below w.heap.size w w' := by
  obtain ⟨b, p, l, K, q, j, J, rfl, hb, nm, dm⟩ := ha
  have HK := Lib.hid (And.intro hn hd)
  clear hn hd
  have S := ((St.start w).alloc 32 [.bool b, .slice p l K, .slice q j J] (w.heap.size)).alloc 32 [.bool false, .slice none 0 0, .slice none 0 0] (w.heap.size + 1)
  try simp only [List.cons_append, List.nil_append] at S
  replace nm := nm.hold S.hold; replace dm := dm.hold S.hold
  obtain ⟨c0_0, c0_1, c0_2⟩ := S.c3 0 rfl; obtain ⟨c1_0, c1_1, c1_2⟩ := S.c3 1 rfl
  go_enter Try.func22, Try.ntmps22
  go_upto_region 1 with fail
  clear c0_0 c0_1 c0_2 c1_0 c1_1 c1_2
  generalize ((w.alloc (.cells #[.bool b, .slice p l K, .slice q j J] 32)).alloc (.cells #[.bool false, .slice none 0 0, .slice none 0 0] 32)) = w1 at S nm dm ⊢
  go_cut [3] (fun s3 wx => ∃ g3 pc lc Kc, s3 = .pointer (some ⟨g3, 0, none⟩) ∧ St w wx [(w.heap.size, 32, [.bool b, .slice p l K, .slice q j J]), (w.heap.size + 1, 32, [.bool false, .slice none 0 0, .slice none 0 0]), (g3, 30, [.bool b, .slice pc lc Kc])] ∧ IsNat wx (.slice pc lc Kc) x.num.natAbs ∧ Hold w1 wx)
  case first =>
    have HH := Hold.drew w1
    replace nm := nm.hold HH; replace dm := dm.hold HH
    replace S := S.drew
    refine wp_region_held_drew (S := fun W => W.cell? ⟨w.heap.size, 0, none⟩ = some (.bool b) ∧ W.cell? ⟨w.heap.size, 1, none⟩ = some (.slice p l K)) (by kernel_rfl) ⟨(S.c 0 0 rfl rfl), (S.c 0 1 rfl rfl)⟩ (fun hS => ?_)
    generalize w1.drew = w2 at S nm dm HH hS ⊢
    refine tk 0 hS ?_
    refine tk 1 hS ?_
    refine tk 2 hS ?_
    refine tk 3 hS ?_
    refine tk 4 hS ?_
    refine tk 5 hS ?_
    refine wpAnyH_ready (rs := [6, 8]) (by kernel_rfl) (by simp) (AllReadyH.cons (opOf rfl) (fun KK hKK => ?_) (AllReadyH.cons (opOf rfl) (fun KK hKK => ?_) AllReadyH.nil))
    ·
      go_simp; clear hS
      refine (S.call (clone_any nm HK.out.1)).mono ?_
      clear S
      rintro e w3 ⟨⟨_, rfl, nc⟩, S, H⟩
      replace nm := nm.hold H; replace dm := dm.hold H; replace HH := HH.trans H; clear H
      obtain ⟨pc, lc, Kc, rfl⟩ := nc.form
      go_wp2_with fail
      refine ho hKK ⟨(S.c 0 0 rfl rfl), (S.c 0 1 rfl rfl)⟩ fun hS => ?_
      clear hKK KK
      refine tk 7 hS ?_
      refine rd 8 fun KK hKK => ?_
      go_simp; clear hS
      have H := S.hnew 30 [.bool false, .slice none 0 0]
      replace S := S.al 30 [.bool false, .slice none 0 0] (w3.heap.size)
      refine iv3 H nm dm nc ?_; clear nm dm nc; intro nm dm nc; replace HH := HH.trans H; clear H
      refine ho hKK ⟨(S.c 0 0 rfl rfl), (S.c 0 1 rfl rfl)⟩ fun hS => ?_
      generalize (w3.alloc (.cells #[.bool false, .slice none 0 0] 30)) = w4 at S nm dm nc HH hS ⊢
      clear hKK KK
      refine rd 9 fun KK hKK => ?_
      have c0 := S.c 2 0 rfl rfl; have f0 := S.f 2 0 rfl; have c1 := S.c 2 1 rfl rfl; have f1 := S.f 2 1 rfl; go_simp; clear hS c0 f0 c1 f1
      have H := S.hset 2 0 (.bool b) rfl rfl (by intro q n e; cases e)
      replace S := S.set 2 0 (.bool b) rfl
      refine iv3 H nm dm nc ?_; clear nm dm nc; intro nm dm nc; replace HH := HH.trans H; clear H
      have H := S.hset 2 1 (.slice pc lc Kc) rfl rfl (by intro q n e; cases e)
      replace S := S.set 2 1 (.slice pc lc Kc) rfl
      refine iv3 H nm dm nc ?_; clear nm dm nc; intro nm dm nc; replace HH := HH.trans H; clear H
      refine ho hKK ⟨(S.c 0 0 rfl rfl), (S.c 0 1 rfl rfl)⟩ fun hS => ?_
      generalize ((w4.setCell ⟨w3.heap.size, 0, none⟩ (.bool b)).setCell ⟨w3.heap.size, 1, none⟩ (.slice pc lc Kc)) = w5 at S nm dm nc HH hS ⊢
      clear hKK KK
      refine wpAnyH_done (by kernel_rfl) ?_ _
      go_wp2_with fail
      go_meet
      case rel => exact ⟨w3.heap.size, pc, lc, Kc, rfl, S, nc, HH⟩
    ·
      go_simp; clear hS
      have H := S.hnew 30 [.bool false, .slice none 0 0]
      replace S := S.al 30 [.bool false, .slice none 0 0] (w2.heap.size)
      replace nm := nm.hold H; replace dm := dm.hold H; replace HH := HH.trans H; clear H
      refine ho hKK ⟨(S.c 0 0 rfl rfl), (S.c 0 1 rfl rfl)⟩ fun hS => ?_
      generalize (w2.alloc (.cells #[.bool false, .slice none 0 0] 30)) = w6 at S nm dm HH hS ⊢
      clear hKK KK
      refine rd 6 fun KK hKK => ?_
      go_simp; clear hS
      refine (S.call (clone_any nm HK.out.1)).mono ?_
      clear S
      rintro e w7 ⟨⟨_, rfl, nc⟩, S, H⟩
      replace nm := nm.hold H; replace dm := dm.hold H; replace HH := HH.trans H; clear H
      obtain ⟨pc, lc, Kc, rfl⟩ := nc.form
      go_wp2_with fail
      refine ho hKK ⟨(S.c 0 0 rfl rfl), (S.c 0 1 rfl rfl)⟩ fun hS => ?_
      clear hKK KK
      refine tk 7 hS ?_
      refine rd 9 fun KK hKK => ?_
      have c0 := S.c 2 0 rfl rfl; have f0 := S.f 2 0 rfl; have c1 := S.c 2 1 rfl rfl; have f1 := S.f 2 1 rfl; go_simp; clear hS c0 f0 c1 f1
      have H := S.hset 2 0 (.bool b) rfl rfl (by intro q n e; cases e)
      replace S := S.set 2 0 (.bool b) rfl
      refine iv3 H nm dm nc ?_; clear nm dm nc; intro nm dm nc; replace HH := HH.trans H; clear H
      have H := S.hset 2 1 (.slice pc lc Kc) rfl rfl (by intro q n e; cases e)
      replace S := S.set 2 1 (.slice pc lc Kc) rfl
      refine iv3 H nm dm nc ?_; clear nm dm nc; intro nm dm nc; replace HH := HH.trans H; clear H
      refine ho hKK ⟨(S.c 0 0 rfl rfl), (S.c 0 1 rfl rfl)⟩ fun hS => ?_
      generalize ((w7.setCell ⟨w2.heap.size, 0, none⟩ (.bool b)).setCell ⟨w2.heap.size, 1, none⟩ (.slice pc lc Kc)) = w8 at S nm dm nc HH hS ⊢
      clear hKK KK
      refine wpAnyH_done (by kernel_rfl) ?_ _
      go_wp2_with fail
      go_meet
      case rel => exact ⟨w2.heap.size, pc, lc, Kc, rfl, S, nc, HH⟩
  case rest =>
    obtain ⟨g3, pc, lc, Kc, rfl, S, nc, HH⟩ := hcut
    obtain ⟨w9, rfl⟩ : ∃ W : World, W = wc := ⟨_, rfl⟩
    replace nm := nm.hold HH; replace dm := dm.hold HH; clear HH; obtain ⟨c0_0, c0_1, c0_2⟩ := S.c3 0 rfl; obtain ⟨c1_0, c1_1, c1_2⟩ := S.c3 1 rfl; have c2_0 := S.c 2 0 rfl rfl; have c2_1 := S.c 2 1 rfl rfl
    go_upto_region 2 with fail
    clear c0_0 c0_1 c0_2 c1_0 c1_1 c1_2 c2_0 c2_1
    have HH := Hold.drew w9
    refine iv3 HH nm dm nc ?_; clear nm dm nc; intro nm dm nc
    replace S := S.drew
    refine wp_region_held_drew (S := fun W => W.cell? ⟨w.heap.size, 2, none⟩ = some (.slice q j J) ∧ W.cell? ⟨g3, 0, none⟩ = some (.bool b) ∧ W.cell? ⟨g3, 1, none⟩ = some (.slice pc lc Kc)) (by kernel_rfl) ⟨(S.c 0 2 rfl rfl), ⟨(S.c 2 0 rfl rfl), (S.c 2 1 rfl rfl)⟩⟩ (fun hS => ?_)
    generalize w9.drew = w10 at S nm dm nc HH hS ⊢
    refine tk 0 hS ?_
    refine tk 1 hS ?_
    refine tk 2 hS ?_
    refine rd 3 fun KK hKK => ?_
    go_simp; clear hS
    refine (S.call (clone_any dm HK.out.2)).mono ?_
    clear S
    rintro e w11 ⟨⟨_, rfl, nd⟩, S, H⟩
    refine iv3 H nm dm nc ?_; clear nm dm nc; intro nm dm nc; replace HH := HH.trans H; clear H
    obtain ⟨pd, ld, Kd, rfl⟩ := nd.form
    go_wp2_with fail
    refine ho hKK ⟨(S.c 0 2 rfl rfl), ⟨(S.c 2 0 rfl rfl), (S.c 2 1 rfl rfl)⟩⟩ fun hS => ?_
    clear hKK KK
    refine tk 4 hS ?_
    refine rd 5 fun KK hKK => ?_
    obtain ⟨c0, c1, c2⟩ := S.c3 1 rfl; obtain ⟨f0, f1, f2⟩ := S.f3 1 rfl
    go_simp; clear hS c0 f0 c1 f1 c2 f2
    have HP := S.putq 1 (.bool b) (.slice pc lc Kc) (.slice pd ld Kd) rfl rfl; have H := HP.2; replace S := HP.1; clear HP
    refine iv4 H nm dm nc nd ?_; clear nm dm nc nd; intro nm dm nc nd; replace HH := HH.trans H; clear H
    refine ho hKK ⟨(S.c 0 2 rfl rfl), ⟨(S.c 2 0 rfl rfl), (S.c 2 1 rfl rfl)⟩⟩ fun hS => ?_
    generalize (((w11.setCell ⟨w.heap.size + 1, 0, none⟩ (.bool b)).setCell ⟨w.heap.size + 1, 1, none⟩ (.slice pc lc Kc)).setCell ⟨w.heap.size + 1, 2, none⟩ (.slice pd ld Kd)) = w12 at S nm dm nc nd HH hS ⊢
    clear hKK KK
    refine wpAnyH_done (by kernel_rfl) ?_ _
    clear hS HH; obtain ⟨c0_0, c0_1, c0_2⟩ := S.c3 0 rfl; obtain ⟨c1_0, c1_1, c1_2⟩ := S.c3 1 rfl; have c2_0 := S.c 2 0 rfl rfl; have c2_1 := S.c 2 1 rfl rfl; go_wp2_with fail; obtain ⟨d1_0, d1_1, d1_2⟩ := S.c3 1 rfl
    exact bodyPost_ret (v := .agg #[.bool b, .slice pc lc Kc, .slice pd ld Kd]) (by simp [results, Try.f22, go_sem, d1_0, d1_1, d1_2]) rfl (⟨⟨_, rfl, b, pc, lc, Kc, pd, ld, Kd, rfl, hb, nc, nd⟩, S.below⟩)
theorem FreshR.from {w W w' : World} {v : Value} {qs : List Rat} (h : FreshR W w' v qs) (hl : w.heap.size ≤ W.heap.size) : FreshR w w' v qs := by
  obtain ⟨g, vs, e, hg, hh, hr⟩ := h
  exact ⟨g, vs, e, Nat.le_trans hl hg, hh, hr⟩
theorem FreshR.hold {w W W' : World} {v : Value} {qs : List Rat} (h : FreshR w W v qs) (hB : Below W.heap.size W W') : FreshR w W' v qs := by
  obtain ⟨g, vs, e, hg, hh, hr⟩ := h
  exact ⟨g, vs, e, hg, (hB.block g (lt_of_heap hh)).trans hh, hr.hold (Hold.of_below hB)⟩
theorem FreshR.rats {w W : World} {v : Value} {qs : List Rat} (h : FreshR w W v qs) : Rats W v qs := by
  obtain ⟨g, vs, e, hg, hh, hr⟩ := h
  subst e
  exact .row (lt_of_heap hh) (Nat.le_refl _) (.of_heap hh) hr
theorem zip_snoc {F : Rat → Rat → Rat} : ∀ {xs ys : List Rat} {k : Nat} {x y : Rat}, xs[k]? = some x → ys[k]? = some y → (List.zipWith F xs ys).take (k + 1) = (List.zipWith F xs ys).take k ++ [F x y]
  | [], _, _, _, _, h, _ => by simp at h
  | _ :: _, [], _, _, _, _, h => by simp at h
  | a :: xs, b :: ys, 0, x, y, h1, h2 => by simp at h1 h2; subst h1 h2; simp
  | a :: xs, b :: ys, k + 1, x, y, h1, h2 => by
    have := zip_snoc (F := F) (xs := xs) (ys := ys) (k := k) (by simpa using h1) (by simpa using h2)
    simp [this]
set_option maxRecDepth 100000 in
set_option maxHeartbeats 4000000 in
theorem vpair_any {va vb : Value} {xs ys : List Rat} {w : World} (ha : Rats w va xs) (hb : Rats w vb ys) (n : Nat) (hla : xs.length = n) (hlb : ys.length = n) (hn : n ≤ 1000000) (fid : FuncId) (F : Rat → Rat → Rat) (hcf : ∀ (u v : Value) (W : World), Sem.run Try.prog (callFunc fid #[u, v]) W = .ok (.enter fid #[u, v]) W)
    (hf : ∀ (W : World) (u v : Value) (k : Nat) (x y : Rat), xs[k]? = some x → ys[k]? = some y → IsRat W u x → IsRat W v y → Calls Try.prog fid #[u, v] W fun e w' => (∃ r, e = .returned (.tuple #[r, .int .i64 0]) ∧ IsRat w' r (F x y)) ∧ Below W.heap.size W w') :
    Calls Try.prog 24 #[va, vb, .func (.func fid) #[] #[]] w fun e w' => (∃ v, e = .returned (.tuple #[v, .int .i64 0]) ∧ FreshR w w' v (List.zipWith F xs ys)) ∧ Below w.heap.size w w' := by
  have hz : (List.zipWith F xs ys).length = n := by simp [hla, hlb]
  obtain ⟨pa, ca, rfl⟩ := ha.form
  obtain ⟨pb, cb, rfl⟩ := hb.form
  rw [hla] at ha ⊢
  rw [hlb] at hb ⊢
  have HI := Lib.hid (And.intro ha (And.intro hb (And.intro hf (And.intro hz hn))))
  clear ha hb hf hz
  have S := St.start w
  go_enter Try.func24, Try.ntmps24
  go_upto_region 4 with (at_make; refine make_rats S rfl _ _ rfl _ _ n rfl rfl ?hL ?hC ?hn (fun w3 S3 hB3 => ?_))
  case hL => rfl
  case hC => rfl
  case hn => omega
  simp only [List.nil_append] at S3
  replace S := S3
  clear S3 hB3; go_wp2_with fail
  go_loopw [22] (fun si wr => ∃ k : Nat, k ≤ n ∧ si = .int .i64 k ∧ ∃ vs, RL wr vs ((List.zipWith F xs ys).take k) ∧ St w wr [(w.heap.size, 32, vs ++ zr3 (n - k))]) (fun si _ => n - (intOf si).toNat)
  case atStart => exact ⟨0, by omega, rfl, [], trivial, S⟩
  case round =>
    clear S
    obtain ⟨k, hk, rfl, vs, hv, S⟩ := hrel
    by_cases hlt : k < n
    · obtain ⟨r, hr⟩ : ∃ r, n - k = r + 1 := ⟨n - k - 1, by omega⟩
      rw [hr] at S
      have hl : vs.length = k * 3 := by rw [hv.len, List.length_take, HI.out.2.2.2.1]; omega
      obtain ⟨ga, oa, x, v0, v1, v2, rfl, hga, hqa, a0, a1, a2, b1, p1, l1, K1, p2, l2, K2, rfl, rfl, rfl, hs1, n1, n2⟩ := HI.out.1.get hlt
      obtain ⟨gb, ob, y, v0, v1, v2, rfl, hgb, hqb, c0, c1, c2, b2, q1, j1, J1, q2, j2, J2, rfl, rfl, rfl, hs2, n3, n4⟩ := HI.out.2.1.get hlt
      replace a0 := (S.below.cell (p := ⟨ga, oa + k * 3, none⟩) hga).trans a0
      replace a1 := (S.below.cell (p := ⟨ga, oa + k * 3 + 1, none⟩) hga).trans a1
      replace a2 := (S.below.cell (p := ⟨ga, oa + k * 3 + 2, none⟩) hga).trans a2
      have HC := Lib.hid (And.intro hgb (And.intro c0 (And.intro c1 c2)))
      clear c0 c1 c2
      have HQ := Lib.hid (And.intro hl (And.intro hlt (And.intro hr (And.intro hqa (And.intro hqb hgb)))))
      have hki : (k : Int) < ((n : Nat) : Int) := by omega
      replace n1 := n1.below S.below (Nat.le_refl _)
      replace n2 := n2.below S.below (Nat.le_refl _)
      replace n3 := n3.below S.below (Nat.le_refl _)
      replace n4 := n4.below S.below (Nat.le_refl _)
      clear hr hlt hl hk hqa hqb hga hgb
      go_upto_region 8 with fail
      have H := S.hnew 32 [.bool b1, .slice p1 l1 K1, .slice p2 l2 K2]
      replace S := S.alloc 32 [.bool b1, .slice p1 l1 K1, .slice p2 l2 K2] (wr.heap.size)
      simp only [List.cons_append, List.nil_append] at S
      refine iv5 H hv n1 n2 n3 n4 ?_; clear hv n1 n2 n3 n4; intro hv n1 n2 n3 n4
      clear H a0 a1 a2
      generalize (wr.alloc (.cells #[.bool b1, .slice p1 l1 K1, .slice p2 l2 K2] 32)) = w1 at S hv n1 n2 n3 n4 ⊢
      have H := Hold.drew w1
      refine iv5 H hv n1 n2 n3 n4 ?_; clear hv n1 n2 n3 n4; intro hv n1 n2 n3 n4
      clear H
      replace S := S.drew
      generalize hgx : wr.heap.size = gx at S ⊢
      clear hgx
      refine wp_region_held_drew (S := fun W => W.cell? ⟨gb, ob + k * 3, none⟩ = some (.bool b2) ∧ W.cell? ⟨gb, ob + k * 3 + 1, none⟩ = some (.slice q1 j1 J1) ∧ W.cell? ⟨gb, ob + k * 3 + 2, none⟩ = some (.slice q2 j2 J2) ∧ W.cell? ⟨gx, 0, none⟩ = some (.bool b1) ∧ W.cell? ⟨gx, 1, none⟩ = some (.slice p1 l1 K1) ∧ W.cell? ⟨gx, 2, none⟩ = some (.slice p2 l2 K2)) (by kernel_rfl) ⟨(S.below.cell (p := ⟨gb, ob + k * 3, none⟩) HC.out.1).trans HC.out.2.1, (S.below.cell (p := ⟨gb, ob + k * 3 + 1, none⟩) HC.out.1).trans HC.out.2.2.1, (S.below.cell (p := ⟨gb, ob + k * 3 + 2, none⟩) HC.out.1).trans HC.out.2.2.2, S.c3 1 rfl⟩ (fun hS => ?_)
      generalize w1.drew = w2 at S hv n1 n2 n3 n4 hS ⊢
      refine tk 0 hS ?_
      refine tk 1 hS ?_
      refine tk 2 hS ?_
      refine tk 3 hS ?_
      refine tk 4 hS ?_
      refine tk 5 hS ?_
      refine tk 6 hS ?_
      refine tk 7 hS ?_
      refine rd 8 fun KK hKK => ?_
      go_simp; clear hS
      refine (S.call (HI.out.2.2.1 _ _ _ k x y HQ.out.2.2.2.1 HQ.out.2.2.2.2.1 ⟨b1, p1, l1, K1, p2, l2, K2, rfl, hs1, n1, n2⟩ ⟨b2, q1, j1, J1, q2, j2, J2, rfl, hs2, n3, n4⟩)).mono ?_
      clear S
      rintro e w4 ⟨⟨_, rfl, b3, p3, l3, K3, p4, l4, K4, rfl, hs3, n5, n6⟩, S, H⟩
      replace hv := hv.hold H; clear H n1 n2 n3 n4 hs1 hs2; go_wp2_with fail
      refine ho hKK ⟨(S.below.cell (p := ⟨gb, ob + k * 3, none⟩) HC.out.1).trans HC.out.2.1, (S.below.cell (p := ⟨gb, ob + k * 3 + 1, none⟩) HC.out.1).trans HC.out.2.2.1, (S.below.cell (p := ⟨gb, ob + k * 3 + 2, none⟩) HC.out.1).trans HC.out.2.2.2, S.c3 1 rfl⟩ fun hS => ?_
      clear hKK KK
      refine tk 9 hS ?_
      refine tk 10 hS ?_
      refine tk 11 hS ?_
      refine rd 12 fun KK hKK => ?_
      go_simp
      refine ho hKK hS fun hS => ?_
      clear hKK KK
      refine rd 13 fun KK hKK => ?_
      have f0 := S.f 0 (k * 3) rfl
      have f1 := S.f 0 (k * 3 + 1) rfl
      have f2 := S.f 0 (k * 3 + 2) rfl
      obtain ⟨S2, H⟩ := S.putAt 0 (.bool b3) (.slice p3 l3 K3) (.slice p4 l4 K4) rfl HQ.out.1
      have g0 := S.c 0 (k * 3) rfl (v := .bool false) (by rw [← HQ.out.1]; simp [zr3])
      have g1 := S.c 0 (k * 3 + 1) rfl (v := .slice none 0 0) (by rw [← HQ.out.1, List.getElem?_append_right (by omega)]; simp [zr3])
      have g2 := S.c 0 (k * 3 + 2) rfl (v := .slice none 0 0) (by rw [← HQ.out.1, List.getElem?_append_right (by omega)]; simp [zr3])
      clear hS; go_simp; clear S f0 f1 f2 g0 g1 g2
      replace S := S2
      clear S2
      simp only [List.set_cons_zero] at S
      refine ho hKK ⟨(S.below.cell (p := ⟨gb, ob + k * 3, none⟩) HC.out.1).trans HC.out.2.1, (S.below.cell (p := ⟨gb, ob + k * 3 + 1, none⟩) HC.out.1).trans HC.out.2.2.1, (S.below.cell (p := ⟨gb, ob + k * 3 + 2, none⟩) HC.out.1).trans HC.out.2.2.2, S.c3 1 rfl⟩ fun hS => ?_
      clear hKK KK
      refine rd 14 fun KK hKK => ?_
      go_simp
      refine ho hKK hS fun hS => ?_
      clear hKK KK
      refine wpAnyH_done (by kernel_rfl) ?_ _
      have hv2 := (hv.hold H).snoc (q := F x y) ⟨b3, p3, l3, K3, p4, l4, K4, rfl, rfl, rfl, hs3, n5.hold H, n6.hold H⟩
      clear hv H hs3 n5 n6 hS
      replace S := S.take 1 rfl
      go_wp2_with fail
      go_roundw
      case rel => exact ⟨k + 1, HQ.out.2.1, by go_num, _, by rw [zip_snoc HQ.out.2.2.2.1 HQ.out.2.2.2.2.1]; exact hv2, by rw [show n - (k + 1) = r by have := HQ.out.2.2.1; omega]; exact S⟩
      case measure => have := HQ.out.2.1; simp [intOf]; omega
    · have hki : ¬ (k : Int) < ((n : Nat) : Int) := by omega
      have hkn : k = n := by omega
      subst hkn
      rw [Nat.sub_self] at S
      rw [List.take_of_length_le (by rw [HI.out.2.2.2.1]; omega)] at hv
      simp only [zr3, List.append_nil] at S
      clear hlt hk; go_wp2_with fail
      exact bodyPost_ret (v := .tuple #[.slice (some ⟨w.heap.size, 0, none⟩) k k, .int .i64 0]) (by simp [results, Try.f24, go_sem]) rfl (⟨⟨_, rfl, _, vs, by rw [HI.out.2.2.2.1], Nat.le_refl _, (S.locs.get 0 rfl).2, hv⟩, S.below⟩)
end Go.Proofs.Ytcfgefbkeeedgaa
