/-
  What the statement stands on.
-/
import Derived.Test.YtcfgefbkeeedgaaGreatM16
import Derived.Test.YtcfgefbkeeedgaaGreatM17
namespace Go.Proofs.YtcfgefbkeeedgaaGreat
open Go.RowKit
section
variable {ops : Array Oper} {rest : List Oper} {o : Oper} {a : Act} {Q : Exit → Act → World → Prop} {w : World}
theorem append_nat (hg : o.guard = none) (s x : Operand) (ho : o.op = .call { callee := .builtin .append, args := #[s, x], argTypes := #[35, 35] }) (hs : a.eval s = .slice none 0 0)
    (n : Nat) (u : Value) (hx : a.eval x = u) (hn : IsNat w u n) (hm : n < maxN)
    (hK : ∀ v' w', IsNat w' v' n → Below w.heap.size w w' → wpList Tryz.prog ops Q rest (a.put o.dst v') w') :
    wpList Tryz.prog ops Q (o :: rest) a w := by
  obtain ⟨ds, ⟨p, K, rfl, hat⟩, hc, hv⟩ := hn
  have hl : ds.length ≤ 512 := hc.len_max.2 (by rw [hv]; exact hm)
  obtain ⟨i0, hi, hz0, hz1, hz2⟩ := info_parts info_u32
  exact append_list hg 35 88 .u32 i0 4 Tryz.underlying35 hi hz0 hz1 hz2 (by decide) s x ho w.heap.size _ [] ds hs (Own.nil _ _ _ _) p K ds.length rfl hx hat (by simp; omega) (Nat.le_refl _) w.heap.size w (Below.refl _ _) (Nat.le_refl _) fun v' w' h1 h2 _ => hK v' w' ⟨ds, h1.nums, hc, hv⟩ h2
end
set_option maxRecDepth 100000 in
set_option maxHeartbeats 1000000 in
theorem copied_any {v : Value} {n : Nat} {w : World} (h : IsNat w v n) (hm : n < maxN) :
    Calls Tryz.prog 95 #[v] w fun e w' => (∃ u, e = .returned u ∧ IsNat w' u n) ∧ Below w.heap.size w w' := by
  obtain ⟨p, l, K, rfl⟩ := h.form
  have HN := Lib.hid (And.intro h hm)
  clear h hm
  go_enter Tryz.func95, Tryz.ntmps95
  go_wp2_with (at_builtin; refine append_nat rfl (.const (.slice none 0 0)) (.tmp 3) rfl rfl n _ rfl HN.out.1 HN.out.2 (fun v' w' hn' hB' => ?_))
  obtain ⟨p2, l2, K2, rfl⟩ := hn'.form
  have HV := Lib.hid hn'
  clear hn'; go_wp2_with fail
  exact bodyPost_ret (v := .slice p2 l2 K2) (by simp [results, Tryz.f95, go_sem]) rfl ⟨⟨_, rfl, HV.out⟩, hB'⟩
set_option maxRecDepth 100000 in
set_option maxHeartbeats 1000000 in
theorem wnat_any {v : Value} {n : Nat} {w : World} (h : IsNat w v n) (hm : n < maxN) (z : Int) (hz : z = n) :
    Calls Tryz.prog 70 #[v] w fun e w' => (∃ u, e = .returned u ∧ IsInt w' u z) ∧ Below w.heap.size w w' := by
  obtain ⟨p, l, K, rfl⟩ := h.form
  have hbw := (Below.refl w.heap.size w).alloc (Nat.le_refl _) (.cells #[.bool false, .slice none 0 0] 37)
  have hc := Cell2.made w 37 (.bool false) (.slice none 0 0)
  have HCell := Lib.hid hc
  have hsz : w.heap.size < (w.alloc (.cells #[.bool false, .slice none 0 0] 37)).heap.size := by simp
  have C := Lib.hid (copied_any (h.below hbw (Nat.le_refl _)) hm)
  have HZ := Lib.hid (show negB z = false ∧ z.natAbs = n from ⟨negB_neg (by omega), by omega⟩)
  clear h hm hz hc
  go_enter Tryz.func70, Tryz.ntmps70
  go_wp2_with fail
  refine C.out.mono ?_
  clear C
  rintro e w1 ⟨⟨u, rfl, nu⟩, hB⟩
  obtain ⟨p2, l2, K2, rfl⟩ := nu.form
  have j := HCell.out.below hB hsz
  have f0 := j.free 0
  have f1 := j.free 1
  have d0 := j.c0
  have d1 := j.c1
  have HC2 := Lib.hid (j.set2 (.bool false) (.slice p2 l2 K2))
  have hu2 := nu.set2 j (.bool false) (.slice p2 l2 K2)
  have hb3 := ((hbw.trans (hB.mono (by simp))).setCell (p := ⟨w.heap.size, 0, none⟩) (Nat.le_refl _) (.bool false)).setCell (p := ⟨w.heap.size, 1, none⟩) (Nat.le_refl _) (.slice p2 l2 K2)
  have HV := Lib.hid hu2
  clear hu2 nu j hbw hB hsz HCell; go_wp2_with fail
  have e0 := HC2.out.c0
  have e1 := HC2.out.c1
  refine bodyPost_ret (v := .agg #[.bool false, .slice p2 l2 K2]) (by simp [results, Tryz.f70, go_sem, e0, e1]) rfl ⟨⟨_, rfl, p2, l2, K2, by rw [HZ.out.1], ?_⟩, hb3⟩
  rw [HZ.out.2]
  exact HV.out
set_option maxRecDepth 100000 in
set_option maxHeartbeats 1000000 in
theorem or_zero (g n : Nat) (w : World) (hg : g < w.heap.size) (hn : n ≤ 1000) (hs : ∀ j, j < n → w.cell? ⟨g, j, none⟩ = some (.int .i64 0)) :
    Calls Tryz.prog 16 #[.slice (some ⟨g, 0, none⟩) n n] w fun e w' => e = .returned (.int .i64 0) ∧ Below w.heap.size w w' := by
  have HS := Lib.hid hs
  clear hs
  have S := St.start w
  go_enter Tryz.func16, Tryz.ntmps16
  go_wp2_with fail
  go_loopw [8] (fun si wr => ∃ k : Nat, k ≤ n ∧ si = .int .i64 k ∧ St w wr []) (fun si _ => n - (intOf si).toNat)
  case atStart => exact ⟨0, by omega, rfl, S⟩
  case round =>
    obtain ⟨k, hk, rfl, S⟩ := hrel
    by_cases hlt : k < n
    · have a0 := (S.below.cell (p := ⟨g, k, none⟩) hg).trans (HS.out k hlt)
      have HL := Lib.hid hlt
      have hki : (k : Int) < ((n : Nat) : Int) := by omega
      clear hlt; go_wp2_with fail
      go_roundw
      case rel => exact ⟨k + 1, HL.out, by go_num, S⟩
      case measure => have := HL.out; simp [intOf]; omega
    · have hge : ¬ (k : Int) < ((n : Nat) : Int) := by omega
      clear hlt
      go_wp2
      go_ret
      exact ⟨rfl, S.below⟩
set_option maxRecDepth 100000 in
set_option maxHeartbeats 4000000 in
theorem wneg_any {va : Value} {x : Int} {w : World} (ha : IsInt w va x) (hx : x.natAbs < maxN) :
    Calls Tryz.prog 85 #[va] w fun e w' => (∃ u, e = .returned u ∧ IsInt w' u (-x)) ∧ Below w.heap.size w w' := by
  obtain ⟨p1, l1, K1, rfl, n1⟩ := ha
  have hF := neg_flag x
  obtain ⟨b1, hb1⟩ : ∃ b1, negB x = b1 := ⟨_, rfl⟩
  rw [hb1] at hF
  rw [hb1]
  have hW := two_below w (.cells #[.bool b1, .slice p1 l1 K1] 37) (.cells #[.bool false, .slice none 0 0] 37)
  have k1 := (Cell2.made w 37 (.bool b1) (.slice p1 l1 K1)).alloc (.cells #[.bool false, .slice none 0 0] 37)
  have k2 := Cell2.made (w.alloc (.cells #[.bool b1, .slice p1 l1 K1] 37)) 37 (.bool false) (.slice none 0 0)
  have hs2 : (w.alloc (.cells #[.bool b1, .slice p1 l1 K1] 37)).heap.size = w.heap.size + 1 := by simp
  rw [hs2] at k2
  have m1 := n1.below hW (Nat.le_refl _)
  have hsz := hW.size
  generalize hWW : ((w.alloc (.cells #[.bool b1, .slice p1 l1 K1] 37)).alloc (.cells #[.bool false, .slice none 0 0] 37)) = W0 at *
  have H1 := Lib.hid (show ∀ W, Below W0.heap.size W0 W → Calls Tryz.prog 95 #[.slice p1 l1 K1] W fun e w' => (∃ u, e = .returned u ∧ IsNat w' u x.natAbs) ∧ Below W.heap.size W w' from
    fun W hB => copied_any (m1.below hB (Nat.le_refl _)) hx)
  have H2 := Lib.hid (show ∀ W u, IsNat W u x.natAbs → Calls Tryz.prog 73 #[.bool (!b1), u] W fun e w' => (∃ u, e = .returned u ∧ IsInt w' u (-x)) ∧ Below W.heap.size W w' from
    fun W u hu => signed_any (!b1) hu hx (-x) hF)
  have HK := Lib.hid (And.intro k1 k2)
  have c10 := k1.c0
  have c11 := k1.c1
  have hbx := Below.refl W0.heap.size W0
  clear k1 k2 hs2 n1 m1 hx hF hb1
  go_enter Tryz.func85, Tryz.ntmps85
  go_upto_region 1 with fail
  clear hWW
  go_region_with (first
    | (go_at_call 95; refine (H1.out _ (by exact hbx.drew)).mono ?_; rintro e w1 ⟨⟨u, rfl, hu⟩, hB1⟩; have hb1 := hbx.drew.trans hB1; have d10 := (HK.out.1.below hb1 HK.out.1.lt).c0; have d11 := (HK.out.1.below hb1 HK.out.1.lt).c1)
    | (go_at_call 73; refine (H2.out _ _ (by exact hu)).mono ?_; rintro e w2 ⟨⟨u, rfl, p', l', K', rfl, hv⟩, hB2⟩; have hb2 := hb1.trans (hB2.mono hb1.size); have j3 := HK.out.2.below hb2 HK.out.2.lt; have d30 := j3.c0; have d31 := j3.c1; have f30 := j3.free 0; have f31 := j3.free 1))
  all_goals
    (have HC2 := Lib.hid (j3.set2 (.bool (negB (-x))) (.slice p' l' K'))
     have hu2 := hv.set2 j3 (.bool (negB (-x))) (.slice p' l' K')
     have hb3 := (((hW.trans (hb2.mono hsz))).setCell (p := ⟨w.heap.size + 1, 0, none⟩) (by show w.heap.size ≤ w.heap.size + 1; omega) (.bool (negB (-x)))).setCell (p := ⟨w.heap.size + 1, 1, none⟩) (by show w.heap.size ≤ w.heap.size + 1; omega) (.slice p' l' K')
     clear j3 hb2 hb1 hB1 hB2 hv hu d10 d11 c10 c11 d30 d31 f30 f31 hbx hW H1 H2; go_wp2_with fail
     have e0 := HC2.out.c0
     have e1 := HC2.out.c1
     exact bodyPost_ret (v := .agg #[.bool (negB (-x)), .slice p' l' K']) (by simp [results, Tryz.f85, go_sem, e0, e1]) rfl ⟨⟨_, rfl, p', l', K', rfl, hu2⟩, hb3⟩)
set_option maxRecDepth 100000 in
set_option maxHeartbeats 1000000 in
theorem wabs_any {va : Value} {x : Int} {w : World} (ha : IsInt w va x) (hx : x.natAbs < maxN) (z : Int) (hz : z = x.natAbs) :
    Calls Tryz.prog 53 #[va] w fun e w' => (∃ u, e = .returned u ∧ IsInt w' u z) ∧ Below w.heap.size w w' := by
  obtain ⟨p1, l1, K1, rfl, n1⟩ := ha
  obtain ⟨b1, hb1⟩ : ∃ b1, negB x = b1 := ⟨_, rfl⟩
  rw [hb1]
  have hW := two_below w (.cells #[.bool b1, .slice p1 l1 K1] 37) (.cells #[.bool false, .slice none 0 0] 37)
  have k1 := (Cell2.made w 37 (.bool b1) (.slice p1 l1 K1)).alloc (.cells #[.bool false, .slice none 0 0] 37)
  have k2 := Cell2.made (w.alloc (.cells #[.bool b1, .slice p1 l1 K1] 37)) 37 (.bool false) (.slice none 0 0)
  have hs2 : (w.alloc (.cells #[.bool b1, .slice p1 l1 K1] 37)).heap.size = w.heap.size + 1 := by simp
  rw [hs2] at k2
  have HK := Lib.hid k2
  have C := Lib.hid (wnat_any (n1.below hW (Nat.le_refl _)) hx z hz)
  have c11 := k1.c1
  clear k1 k2 hs2 n1 hx hb1 hz
  go_enter Tryz.func53, Tryz.ntmps53
  go_wp2_with fail
  refine C.out.mono ?_
  clear C
  rintro e w1 ⟨⟨u, rfl, p, l, K, rfl, hu⟩, hB⟩
  have j3 := HK.out.below hB HK.out.lt
  have d0 := j3.c0
  have d1 := j3.c1
  have f0 := j3.free 0
  have f1 := j3.free 1
  have HC2 := Lib.hid (j3.set2 (.bool (negB z)) (.slice p l K))
  have hu2 := hu.set2 j3 (.bool (negB z)) (.slice p l K)
  have hb2 := hW.trans (hB.mono hW.size)
  have hb3 := (hb2.setCell (p := ⟨w.heap.size + 1, 0, none⟩) (by show w.heap.size ≤ w.heap.size + 1; omega) (.bool (negB z))).setCell (p := ⟨w.heap.size + 1, 1, none⟩) (by show w.heap.size ≤ w.heap.size + 1; omega) (.slice p l K)
  clear j3 hB hb2 hW c11; go_wp2_with fail
  have e0 := HC2.out.c0
  have e1 := HC2.out.c1
  exact bodyPost_ret (v := .agg #[.bool (negB z), .slice p l K]) (by simp [results, Tryz.f53, go_sem, e0, e1]) rfl ⟨⟨_, rfl, p, l, K, rfl, hu2⟩, hb3⟩
section
variable {va vb : Value} {x y : Int} {w : World} (ha : IsInt w va x) (hb : IsInt w vb y) (hx : x.natAbs < maxN) (hy : y.natAbs < maxN) (z : Int)
include ha hb hx hy
theorem wadd_to (hz : x + y = z) (h : z.natAbs < maxN) : Calls Tryz.prog 87 #[va, vb] w fun e w' => (∃ u, e = .returned (.tuple #[u, .int .i64 0]) ∧ IsInt w' u z) ∧ Below w.heap.size w w' := by
  subst hz; exact wadd_any ha hb hx hy h
theorem wmul_to (hz : x * y = z) (h : z.natAbs < maxN) : Calls Tryz.prog 83 #[va, vb] w fun e w' => (∃ u, e = .returned (.tuple #[u, .int .i64 0]) ∧ IsInt w' u z) ∧ Below w.heap.size w w' := by
  subst hz; exact wmul_any ha hb hx hy (by rw [← Int.natAbs_mul]; exact h)
theorem wdiv_to (r : Int) (h0 : y ≠ 0) (hz : x / y = z) (hr : x % y = r) : Calls Tryz.prog 84 #[va, vb] w fun e w' => (∃ u v, e = .returned (.tuple #[u, v, .int .i64 0]) ∧ IsInt w' u z ∧ IsInt w' v r) ∧ Below w.heap.size w w' := by
  subst hz; subst hr; exact wdiv_any ha hb hx hy h0
theorem wcompare_to (hz : cmpI x y = z) : Calls Tryz.prog 52 #[va, vb] w fun e w' => e = .returned (.int .i64 z) ∧ Below w.heap.size w w' := by
  subst hz; exact wcompare_any ha hb hx hy
omit hb hy in
theorem wneg_to (hz : -x = z) : Calls Tryz.prog 85 #[va] w fun e w' => (∃ u, e = .returned u ∧ IsInt w' u z) ∧ Below w.heap.size w w' := by
  subst hz; exact wneg_any ha hx
end
end Go.Proofs.YtcfgefbkeeedgaaGreat
