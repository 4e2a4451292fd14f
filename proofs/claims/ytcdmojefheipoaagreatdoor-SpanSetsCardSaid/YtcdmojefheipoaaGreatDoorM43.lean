/-
  What the statement stands on.
-/
import Derived.Test.YtcdmojefheipoaaGreatDoorM23
import Derived.Test.YtcdmojefheipoaaGreatDoorM39
namespace Go.Proofs.YtcdmojefheipoaaGreatDoor
open Go.RowKit
section
variable {ops : Array Oper} {rest : List Oper} {o : Oper} {a : Act} {Q : Exit → Act → World → Prop} {w : World}
theorem append_raw (hg : o.guard = none) (s x : Operand) (ho : o.op = .call { callee := .builtin .append, args := #[s, x], argTypes := #[23, 23] }) (w1 : World) (hw : w = w1.alloc (.cells #[] 139)) (hs : a.eval s = .slice (some ⟨w1.heap.size, 0, none⟩) 0 0)
    (ds : List Nat) (p : Addr) (l K : Nat) (hx : a.eval x = .slice (some p) l K) (hl : ds.length = l) (hat : At .u32 w (some p) K ds) (hm : l * 4 ≤ 140737488355328)
    (hK : ∀ v' w', Nums .u32 w' v' ds → Below w1.heap.size w1 w' → wpList Tryz.prog ops Q rest (a.put o.dst v') w') :
    wpList Tryz.prog ops Q (o :: rest) a w := by
  subst hw hl
  obtain ⟨i0, hi, hz0, hz1, hz2⟩ := info_parts info_u32
  have hown : Own .u32 139 (w1.alloc (.cells #[] 139)) w1.heap.size (.slice (some ⟨w1.heap.size, 0, none⟩) 0 0) [] := Own.made (q := .u32) (t := 139) w1 w1.heap.size 0 [] (Nat.le_refl _) rfl (by simp)
  rcases hat with ⟨h, _⟩ | ⟨b, off, e, _, _, hc⟩
  · cases h
  · cases e
    refine wpList_append_own (P := Tryz.prog) _ hg s x 23 ho w1.heap.size 139 i0 (.int .u32 0) 1 4 Tryz.underlying23 hi hz0 hz1 hz2 rfl (by decide) _ 0 (cellsOf .u32 []) hs hown ⟨b, off, none⟩ ds.length K (cellsOf .u32 ds) hx (by rw [cellsOf_length, Nat.mul_one]) (fun j u hu => ?_) (fun u hu => ?_) (by unfold maxLen; omega)
      (by omega) (by simp) (fun v' w' h1 h2 _ => ?_)
    · have hj : j < ds.length := by
        have := (List.getElem?_eq_some_iff.1 hu).1
        rwa [cellsOf_length] at this
      rw [cellsOf_get _ _ _ hj] at hu
      cases hu
      have e : (⟨b, off, none⟩ : Addr).add j = ⟨b, off + j, none⟩ := by unfold Addr.add; split <;> simp_all
      rw [e]; exact hc j hj
    · obtain ⟨y, _, rfl⟩ := List.mem_map.1 hu; rfl
    · have h3 : Own .u32 139 w' w1.heap.size v' ds := by
        unfold Own
        simpa [cellsOf] using h1
      exact hK v' w' h3.nums (((Below.refl _ w1).alloc (Nat.le_refl _) _).grown h2 (by simp) fun k hk => (hown.block k hk).1)
end
set_option maxRecDepth 100000 in
set_option maxHeartbeats 1000000 in
theorem clone_raw {p : Option Addr} {l K : Nat} {ds : List Nat} {w : World} (hat : At .u32 w p K ds) (hl : ds.length = l) (hm : l * 4 ≤ 140737488355328) :
    Calls Tryz.prog 89 #[.slice p l K] w fun e w' => (∃ u, e = .returned u ∧ Nums .u32 w' u ds) ∧ Below w.heap.size w w' := by
  have HN := Lib.hid (And.intro hat (And.intro hl hm))
  have hnil := fun (w : World) (a : Option Addr) (n c n' c' : Nat) => Lib.run_eql_slice_nil (P := Tryz.prog) w 23 139 a n c n' c' Tryz.underlying23
  cases p with
  | none =>
    obtain ⟨rfl, rfl⟩ : l = 0 ∧ K = 0 := by
      rcases hat with ⟨_, rfl, rfl⟩ | ⟨b, o, h1, _⟩
      · exact ⟨hl.symm, rfl⟩
      · cases h1
    clear hat hl hm
    go_enter Tryz.func89, Tryz.ntmps89
    go_wp2
    go_ret
    exact ⟨⟨.slice none 0 0, rfl, none, 0, by rw [HN.out.2.1], HN.out.1⟩, Below.refl _ _⟩
  | some a =>
    clear hat hl hm
    go_enter Tryz.func89, Tryz.ntmps89
    go_wp2_with (at_builtin; refine append_raw rfl (.tmp 5) (.tmp 6) rfl w rfl rfl ds a l K rfl HN.out.2.1 (HN.out.1.hold (Hold.of_below ((Below.refl _ w).alloc (Nat.le_refl _) _))) HN.out.2.2 (fun v' w' hn' hB' => ?_))
    have HV := Lib.hid hn'
    obtain ⟨p2, K2, rfl, _⟩ := hn'
    go_wp2_with fail
    exact bodyPost_ret (v := .slice p2 ds.length K2) (by simp [results, Tryz.f89, go_sem]) rfl ⟨⟨_, rfl, HV.out⟩, hB'⟩
set_option maxRecDepth 100000 in
set_option maxHeartbeats 2000000 in
theorem scopied_raw {b : Bool} {p : Option Addr} {l K : Nat} {f : Int} {ds : List Nat} {w : World} (nm : At .u32 w p K ds) (hl : ds.length = l) (hm : l * 4 ≤ 140737488355328) :
    Calls Tryz.prog 85 #[.agg #[.bool b, .slice p l K, .int .i64 f]] w fun e w' => (∃ pc Kc, e = .returned (.agg #[.bool b, .slice pc l Kc, .int .i64 f]) ∧ At .u32 w' pc Kc ds) ∧ Below w.heap.size w w' := by
  have HK := Lib.hid (And.intro hl hm)
  clear hl hm
  have S := ((St.start w).alloc 27 [.bool b, .slice p l K, .int .i64 f] (w.heap.size)).alloc 27 [.bool false, .slice none 0 0, .int .i64 0] (w.heap.size + 1)
  try simp only [List.cons_append, List.nil_append] at S
  replace nm := nm.hold S.hold
  have c0_ := S.c3 0 rfl; have c1_ := S.c3 1 rfl
  go_enter Tryz.func85, Tryz.ntmps85
  go_upto_region 1 with fail
  clear c0_ c1_
  generalize ((w.alloc (.cells #[.bool b, .slice p l K, .int .i64 f] 27)).alloc (.cells #[.bool false, .slice none 0 0, .int .i64 0] 27)) = w1 at S nm ⊢
  have HH := (Hold.drew w1).to32
  replace nm := nm.hold32 HH
  replace S := S.drew
  refine wp_region_held_drew (S := fun W => W.cell? ⟨w.heap.size, 0, none⟩ = some (.bool b) ∧ W.cell? ⟨w.heap.size, 1, none⟩ = some (.slice p l K) ∧ W.cell? ⟨w.heap.size, 2, none⟩ = some (.int .i64 f)) (by kernel_rfl) (S.c3 0 rfl) (fun hS => ?_)
  generalize w1.drew = w2 at S nm HH hS ⊢
  refine tk 0 hS ?_
  refine tk 1 hS ?_
  refine tk 2 hS ?_
  refine tk 3 hS ?_
  refine tk 4 hS ?_
  refine tk 5 hS ?_
  refine tk 8 hS ?_
  refine tk 9 hS ?_
  refine rd 6 fun KK hKK => ?_
  go_simp; clear hS
  refine S.cl (clone_raw nm HK.out.1 HK.out.2) ?_; clear S; rintro e w3 ⟨_, rfl, pc, Kc, rfl, nc⟩ S H
  replace nm := nm.hold H; replace HH := HH.trans H.to32; clear H
  rw [HK.out.1]
  go_wp2_with fail
  refine ho hKK (S.c3 0 rfl) fun hS => ?_
  clear hKK KK
  refine tk 7 hS ?_
  refine tk 10 hS ?_
  refine rd 11 fun KK hKK => ?_
  obtain ⟨c0, c1, c2⟩ := S.c3 1 rfl; obtain ⟨f0, f1, f2⟩ := S.f3 1 rfl
  go_simp; clear hS c0 f0 c1 f1 c2 f2
  have HP := S.put3 1 (.bool b) (.slice pc l Kc) (.int .i64 f) rfl rfl; have H := HP.2; replace S := HP.1; clear HP
  refine iw3 H nm nc HH ?_; clear nm nc HH H; intro nm nc HH
  refine ho hKK (S.c3 0 rfl) fun hS => ?_
  generalize (((w3.setCell ⟨w.heap.size + 1, 0, none⟩ (.bool b)).setCell ⟨w.heap.size + 1, 1, none⟩ (.slice pc l Kc)).setCell ⟨w.heap.size + 1, 2, none⟩ (.int .i64 f)) = w4 at S nm nc HH hS ⊢
  clear hKK KK
  refine wpAnyH_done (by kernel_rfl) ?_ _
  clear hS HH; have c0_ := S.c3 0 rfl; have c1_ := S.c3 1 rfl; go_wp2_with fail; obtain ⟨d1_0, d1_1, d1_2⟩ := S.c3 1 rfl
  exact bodyPost_ret (v := .agg #[.bool b, .slice pc l Kc, .int .i64 f]) (by simp [results, Tryz.f85, go_sem, d1_0, d1_1, d1_2]) rfl (⟨⟨pc, Kc, rfl, nc⟩, S.below⟩)
set_option maxRecDepth 100000 in
set_option maxHeartbeats 2000000 in
theorem spoint_raw {b : Bool} {p : Option Addr} {l K : Nat} {f : Int} {ds : List Nat} {w : World} (n1 : At .u32 w p K ds) (hl : ds.length = l) (hm : l * 4 ≤ 140737488355328) :
    Calls Tryz.prog 31 #[.agg #[.bool b, .slice p l K, .int .i64 f]] w fun e w' => (∃ p1 K1 p2 K2, e = .returned (.agg #[.bool b, .slice p1 l K1, .int .i64 f, .bool b, .slice p2 l K2, .int .i64 f]) ∧ At .u32 w' p1 K1 ds ∧ At .u32 w' p2 K2 ds) ∧ Below w.heap.size w w' := by
  have HK := Lib.hid (And.intro hl hm)
  clear hl hm
  have S := ((St.start w).alloc 27 [.bool b, .slice p l K, .int .i64 f] (w.heap.size)).alloc 29 [.bool false, .slice none 0 0, .int .i64 0, .bool false, .slice none 0 0, .int .i64 0] (w.heap.size + 1)
  try simp only [List.cons_append, List.nil_append] at S
  replace n1 := n1.hold S.hold
  have c0_ := S.c3 0 rfl; have c1_ := S.c6 1 rfl
  go_enter Tryz.func31, Tryz.ntmps31
  go_upto_region 1 with fail
  clear c0_ c1_
  generalize ((w.alloc (.cells #[.bool b, .slice p l K, .int .i64 f] 27)).alloc (.cells #[.bool false, .slice none 0 0, .int .i64 0, .bool false, .slice none 0 0, .int .i64 0] 29)) = w1 at S n1 ⊢
  have HH := (Hold.drew w1).to32
  replace n1 := n1.hold32 HH
  replace S := S.drew
  refine wp_region_held_drew (S := fun W => W.cell? ⟨w.heap.size, 0, none⟩ = some (.bool b) ∧ W.cell? ⟨w.heap.size, 1, none⟩ = some (.slice p l K) ∧ W.cell? ⟨w.heap.size, 2, none⟩ = some (.int .i64 f)) (by kernel_rfl) (S.c3 0 rfl) (fun hS => ?_)
  generalize w1.drew = w2 at S n1 HH hS ⊢
  refine tk 0 hS ?_
  refine tk 2 hS ?_
  refine rd 1 fun KK hKK => ?_
  go_simp; clear hS
  refine S.cl (scopied_raw n1 HK.out.1 HK.out.2) ?_; clear S; rintro e w3 ⟨p3, K3, rfl, n3⟩ S H
  replace n1 := n1.hold H; replace HH := HH.trans H.to32; clear H
  go_wp2_with fail
  refine ho hKK (S.c3 0 rfl) fun hS => ?_
  clear hKK KK
  refine rd 3 fun KK hKK => ?_
  go_simp; clear hS
  refine S.cl (scopied_raw n1 HK.out.1 HK.out.2) ?_; clear S; rintro e w4 ⟨p4, K4, rfl, n4⟩ S H
  replace n1 := n1.hold H; replace n3 := n3.hold H; replace HH := HH.trans H.to32; clear H
  go_wp2_with fail
  refine ho hKK (S.c3 0 rfl) fun hS => ?_
  clear hKK KK
  refine tk 4 hS ?_
  refine rd 5 fun KK hKK => ?_
  obtain ⟨c0, c1, c2, c3, c4, c5⟩ := S.c6 1 rfl; obtain ⟨f0, f1, f2, f3, f4, f5⟩ := S.f6 1 rfl
  go_simp; clear hS c0 f0 c1 f1 c2 f2 c3 f3 c4 f4 c5 f5
  have HP := S.put6 1 (.bool b) (.slice p3 l K3) (.int .i64 f) (.bool b) (.slice p4 l K4) (.int .i64 f) rfl rfl; have H := HP.2; replace S := HP.1; clear HP
  refine iw4 H n1 n3 n4 HH ?_; clear n1 n3 n4 HH H; intro n1 n3 n4 HH
  refine ho hKK (S.c3 0 rfl) fun hS => ?_
  generalize ((((((w4.setCell ⟨w.heap.size + 1, 0, none⟩ (.bool b)).setCell ⟨w.heap.size + 1, 1, none⟩ (.slice p3 l K3)).setCell ⟨w.heap.size + 1, 2, none⟩ (.int .i64 f)).setCell ⟨w.heap.size + 1, 3, none⟩ (.bool b)).setCell ⟨w.heap.size + 1, 4, none⟩ (.slice p4 l K4)).setCell ⟨w.heap.size + 1, 5, none⟩ (.int .i64 f)) = w5 at S n1 n3 n4 HH hS ⊢
  clear hKK KK
  refine wpAnyH_done (by kernel_rfl) ?_ _
  clear hS HH; have c0_ := S.c3 0 rfl; have c1_ := S.c6 1 rfl; go_wp2_with fail; obtain ⟨d1_0, d1_1, d1_2, d1_3, d1_4, d1_5⟩ := S.c6 1 rfl
  exact bodyPost_ret (v := .agg #[.bool b, .slice p3 l K3, .int .i64 f, .bool b, .slice p4 l K4, .int .i64 f]) (by simp [results, Tryz.f31, go_sem, d1_0, d1_1, d1_2, d1_3, d1_4, d1_5]) rfl (⟨⟨p3, K3, p4, K4, rfl, n3, n4⟩, S.below⟩)
end Go.Proofs.YtcdmojefheipoaaGreatDoor
