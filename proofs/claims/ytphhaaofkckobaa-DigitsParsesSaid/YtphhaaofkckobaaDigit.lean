/-
  limbs.divideByDigit: by a number of one digit.
-/
import Derived.Test.YtphhaaofkckobaaDstep
namespace Go.Proofs.Ytphhaaofkckobaa
open Go.RowKit
attribute [local go_sem] Oper.semAt_some

theorem IsNat.other {w : World} {v : Value} {n : Nat} (h : IsNat w v n) {a : Addr} {u : Value} (x : Value) (hc : w.cell? a = some u) (hv : ∀ n, u ≠ .int .u32 n) : IsNat (w.setCell a x) v n := by
  obtain ⟨ds, ⟨p, c, e, h⟩, k⟩ := h
  exact ⟨ds, ⟨p, c, e, h.other x hc hv⟩, k⟩

theorem At.put {q : IntKind} {w : World} {D : Nat} (hK : w.heap[D]? = some (.deferred (some []))) {p : Option Addr} {cap : Nat} {ds : List Nat} : At q w p cap ds → At q (w.putObj D (.deferred none)) p cap ds
  | .inl h => .inl h
  | .inr ⟨b, off, e, hc, hs, h⟩ => .inr ⟨b, off, e, hc, by simpa using hs, fun j hj => put_cell hK (h j hj)⟩
theorem IsNat.put {w : World} {D : Nat} (hK : w.heap[D]? = some (.deferred (some []))) {v : Value} {n : Nat} (h : IsNat w v n) : IsNat (w.putObj D (.deferred none)) v n := by
  obtain ⟨ds, ⟨p, c, e, h⟩, k⟩ := h
  exact ⟨ds, ⟨p, c, e, h.put hK⟩, k⟩

theorem digit_step (V D by' d r Q : Nat) (hV : V = d + 4294967296 * D) (hD : D = Q * by' + r) : V = ((r * 4294967296 + d) / by' + 4294967296 * Q) * by' + (r * 4294967296 + d) % by' := by
  have h := Nat.div_add_mod (r * 4294967296 + d) by'
  generalize (r * 4294967296 + d) / by' = q at *
  generalize (r * 4294967296 + d) % by' = m at *
  grind

set_option maxRecDepth 100000 in
set_option maxHeartbeats 2000000 in
theorem digit_any (p : Option Addr) (K d : Nat) (ds : List Nat) (w : World) (hat : At .u32 w p K ds) (hds : Dig 4294967296 ds) (hlen : ds.length ≤ 512) (hd0 : 0 < d) (hd : d < 4294967296) :
    Calls Try.prog 51 #[.slice p ds.length K, .int .u32 d] w fun e w' => (∃ v1 v2, e = .returned (.tuple #[v1, v2]) ∧ IsNat w' v1 (val 4294967296 ds / d) ∧ IsNat w' v2 (val 4294967296 ds % d)) ∧ Below w.heap.size w w' := by
  refine calls_marks Try.func51 rfl ?_
  simp only [Try.ntmps51, List.size_toArray, List.length_cons, List.length_nil, Nat.reduceAdd, Nat.reduceSub, Array.replicate_succ, Array.replicate_zero, List.push_toArray, List.append_toArray, List.nil_append, List.cons_append]
  have hpl := hat.block
  go_upto_region 2 with (at_make; refine make_nat rfl _ _ rfl _ _ ds.length rfl rfl rfl rfl (by omega) _ _ (Below.refl _ _) (Nat.le_refl _) ?_; intro w3 hr3 hB3 hB3'; have c1 := (hB3.cell (p := ⟨w.heap.size + 1, 0, none⟩) (by simp)).trans (show _ = some (.slice none 0 0) by simp [go_sem]); have f1 := (hB3.frozen (p := ⟨w.heap.size + 1, 0, none⟩) (by simp)).trans (show _ = false by simp [go_sem]))
  rw [show ((w.alloc (.cells #[.int .u32 d] 36)).alloc (.cells #[.slice none 0 0] 23)).heap.size = w.heap.size + 1 + 1 by simp] at hr3 hB3 hB3'
  obtain ⟨w4, hw4⟩ : ∃ w4, w3.setCell ⟨w.heap.size + 1, 0, none⟩ (.slice (some ⟨w.heap.size + 1 + 1, 0, none⟩) ds.length ds.length) = w4 := ⟨_, rfl⟩
  have hB4 : Below w.heap.size w w4 := by
    rw [← hw4]
    exact ((((Below.refl _ w).alloc (Nat.le_refl _) _).alloc (by simp) _).trans (hB3.mono (by omega))).setCell (p := ⟨w.heap.size + 1, 0, none⟩) (by simp) _
  have k0 : w4.cell? ⟨w.heap.size, 0, none⟩ = some (.int .u32 d) := by
    rw [← hw4, World.cell?_setCell_other _ _ _ _ (by simp)]
    exact (hB3.cell (p := ⟨w.heap.size, 0, none⟩) (by show w.heap.size < _; omega)).trans (by simp [go_sem])
  have k1 : w4.cell? ⟨w.heap.size + 1, 0, none⟩ = some (.slice (some ⟨w.heap.size + 1 + 1, 0, none⟩) ds.length ds.length) := by
    rw [← hw4]; exact World.cell?_setCell_same' _ _ _ (by rw [c1]; rfl)
  have g1 : w4.frozen? ⟨w.heap.size + 1, 0, none⟩ = false := by rw [← hw4, World.frozen?_setCell]; exact f1
  have hr4 : Row .u32 36 w4 (w.heap.size + 1 + 1) (List.replicate ds.length 0) := by
    rw [← hw4]; exact hr3.other (by omega) 0 _
  rw [hw4]
  clear hw4 c1 f1 hr3 hB3 hB3'
  go_wp2_with (go_at_call 54; refine (down_any _ _ _ _).mono ?_; rintro e w' ⟨rfl, rfl⟩)
  obtain ⟨h, hh⟩ : ∃ h, w.heap.size = h := ⟨_, rfl⟩
  obtain ⟨R, hR⟩ : ∃ R, w4.heap.size = R := ⟨_, rfl⟩
  have hGR : h + 1 + 1 < R := by have := hr4.lt; omega
  obtain ⟨w1, hw1⟩ : ∃ w1, ((w4.alloc (.cells #[.int .u32 0] 36)).alloc (.cells #[.slice p ds.length K] 23)) = w1 := ⟨_, rfl⟩
  have hB14 : Below w4.heap.size w4 w1 := by rw [← hw1]; exact ((Below.refl _ w4).alloc (Nat.le_refl _) _).alloc (by simp) _
  have hs : w1.heap.size = w4.heap.size + 2 := by rw [← hw1]; simp
  have hra : Row .u32 36 w1 w4.heap.size [0] := by
    rw [← hw1]
    unfold Row
    rw [Below.heap_alloc _ _ _ (by simp)]
    exact World.alloc_heap_new _ _
  have c3 : w1.cell? ⟨w4.heap.size + 1, 0, none⟩ = some (.slice p ds.length K) := by rw [← hw1]; simp [go_sem]
  rw [hw1]
  clear hw1
  have hB := hB4.trans (hB14.mono hB4.size)
  have hat := hat.below hB (Nat.le_refl _)
  rw [hh] at hr4 k0 k1 g1 hpl hB
  rw [hR] at hB14 hs hra c3
  rw [hh, hR]
  have k0 := (hB14.cell (p := ⟨h, 0, none⟩) (by show h < R; omega)).trans k0
  have k1 := (hB14.cell (p := ⟨h + 1, 0, none⟩) (by show h + 1 < R; omega)).trans k1
  have g1 := (hB14.frozen (p := ⟨h + 1, 0, none⟩) (by show h + 1 < R; omega)).trans g1
  have hr4 := hr4.below hB14 hGR
  have hne' : ∀ a, p = some a → ¬ (a.block = h + 1 + 1 ∨ a.block = R) := fun a ha => by have := hpl a ha; omega
  clear hB14 hB4 hpl
  refine rangePlain (gf := 70) (lb := #[.pointer (some ⟨R + 1, 0, none⟩)]) rfl (enters_of Try.func70 (by kernel_rfl) rfl) ds.length _ (fun _ => rfl)
    (fun k W => Turns (fun b => b = h + 1 + 1 ∨ b = R) w1 W ∧ ∃ r cs, r < d ∧ cs.length = ds.length ∧ Dig 4294967296 cs ∧ Hid (val 4294967296 (ds.drop (ds.length - k)) = val 4294967296 (cs.drop (ds.length - k)) * d + r) ∧ Row .u32 36 W R [r] ∧ Row .u32 36 W (h + 1 + 1) cs)
    (fun _ _ _ => False)
    (fun s W W' row hs' hg hr => by
      obtain ⟨h1, r, cs, h2, h3, h4, h5, h6, h7⟩ := hs'
      exact ⟨h1.grown hg (fun r e => (hr r e).1), r, cs, h2, h3, h4, h5, h6.grown hg (fun r e => (hr r e).2), h7.grown hg (fun r e => (hr r e).2)⟩)
    (fun _ _ _ _ _ hs _ _ => hs)
    ⟨Turns.refl _ _, 0, List.replicate ds.length 0, hd0, by simp, fun x hx => by simp at hx; omega, by show _ = _; rw [Nat.sub_zero, List.drop_length, List.drop_of_length_le (by simp)]; simp [val], hra, hr4⟩
    (down_seq 2 (R + 1) p K ds (by omega) _ fun k W hi => ⟨(hi.1.cell (a := ⟨R + 1, 0, none⟩) (by show R + 1 < _; omega) (by show ¬ (R + 1 = h + 1 + 1 ∨ R + 1 = R); omega)).trans c3, hat.turns hi.1 hne'⟩)
    ?round ?done ?stop
  case round =>
    rintro l k W Wb hk ⟨hT, r, cs, hrl, hcl, hcd, hv, hra', hrg⟩
    have s0 := (hT.cell (a := ⟨h, 0, none⟩) (by show h < _; omega) (by show ¬ (h = h + 1 + 1 ∨ h = R); omega)).trans k0
    have s1 := (hT.cell (a := ⟨h + 1, 0, none⟩) (by show h + 1 < _; omega) (by show ¬ (h + 1 = h + 1 + 1 ∨ h + 1 = R); omega)).trans k1
    have s2 := hra'.cell (j := 0) (by simp)
    have f2 := hra'.free 0
    obtain ⟨i, hi, hi'⟩ : ∃ i, ds.length - 1 - k = i ∧ i < ds.length := ⟨_, rfl, by omega⟩
    have hk1 : ds.length - k = i + 1 := by omega
    have hk2 : ds.length - (k + 1) = i := by omega
    rw [hi]
    rw [hk1] at hv
    have co' := hrg.cell (j := i) (by omega)
    have fo' := hrg.free i
    have hdi := hds.dg (by decide) i
    have hii : (i : Int) < ((ds.length : Nat) : Int) := by omega
    simp only [dg, List.getElem?_cons_zero, Option.getD_some] at s2
    have HD := Lib.hid (fun W => div32 r (dg ds i) d W hrl hdi hd)
    have Hk2 := Lib.hid hk2; have Hcl := Lib.hid hcl
    have Hra := Lib.hid hra'; have Hrg := Lib.hid hrg; have HT := Lib.hid hT; have Hv := Lib.hid hv
    have hmix : (Try.prog).follows .mixedOrders = true := by kernel_rfl
    clear hi hk1 hk2 hcl hra' hrg hT hv k0 k1 g1 hr4 hra c3 hne' hat
    gi_wp2
    refine ⟨trivial, ?_⟩
    gi_wp2
    refine round_held (fun W => W.cell? ⟨h, 0, none⟩ = some (.int .u32 d) ∧ W.cell? ⟨h + 1, 0, none⟩ = some (.slice (some ⟨h + 1 + 1, 0, none⟩) ds.length ds.length)) hmix (by kernel_rfl) (fun _ _ h => h) ⟨s0, s1⟩ (fun hS => ?_)
    refine wpAnyH_take (i := 0) (v := .slice (some ⟨h + 1 + 1, 0, none⟩) ds.length ds.length) ((List.getElem?_toArray ..).trans rfl) (by kernel_rfl) (by kernel_rfl) (by kernel_rfl) (fun _ _ _ h => h) (Or.inl ⟨rfl, fun W hW => ?_⟩) hS ?_
    · obtain ⟨hW0, hW1⟩ := hW
      go_simp
    try simp only [Act.put, List.setIfInBounds_toArray, List.set_cons_zero, List.set_cons_succ]
    refine wpAnyH_take (i := 1) (v := .int .i64 i) ((List.getElem?_toArray ..).trans rfl) (by kernel_rfl) (by kernel_rfl) (by kernel_rfl) (fun _ _ _ h => h) (Or.inl ⟨rfl, fun W hW => ?_⟩) hS ?_
    · go_simp
    try simp only [Act.put, List.setIfInBounds_toArray, List.set_cons_zero, List.set_cons_succ]
    refine wpAnyH_take (i := 3) (v := .int .u32 (dg ds i : Nat)) ((List.getElem?_toArray ..).trans rfl) (by kernel_rfl) (by kernel_rfl) (by kernel_rfl) (fun _ _ _ h => h) (Or.inl ⟨rfl, fun W hW => ?_⟩) hS ?_
    · go_simp
    try simp only [Act.put, List.setIfInBounds_toArray, List.set_cons_zero, List.set_cons_succ]
    refine wpAnyH_take (i := 4) (v := .int .u32 d) ((List.getElem?_toArray ..).trans rfl) (by kernel_rfl) (by kernel_rfl) (by kernel_rfl) (fun _ _ _ h => h) (Or.inl ⟨rfl, fun W hW => ?_⟩) hS ?_
    · obtain ⟨hW0, hW1⟩ := hW
      go_simp
    try simp only [Act.put, List.setIfInBounds_toArray, List.set_cons_zero, List.set_cons_succ]
    refine wpAnyH_ready (rs := [2]) (by kernel_rfl) (by simp) (AllReadyH.cons ((List.getElem?_toArray ..).trans rfl) (fun K hK => ?_) AllReadyH.nil)
    go_simp
    refine hK.out _ _ hS (fun _ => ?_)
    clear hK K
    try simp only [Act.put, List.setIfInBounds_toArray, List.set_cons_zero, List.set_cons_succ]
    refine wpAnyH_ready (rs := [5]) (by kernel_rfl) (by simp) (AllReadyH.cons ((List.getElem?_toArray ..).trans rfl) (fun K hK => ?_) AllReadyH.nil)
    go_simp
    refine (HD.out _).mono ?_
    rintro e w' ⟨rfl, n, rfl⟩
    go_wp2_with fail
    refine hK.out _ _ hS (fun hS2 => ?_)
    clear hK K
    try simp only [Act.put, List.setIfInBounds_toArray, List.set_cons_zero, List.set_cons_succ]
    refine wpAnyH_take (i := 6) (v := .tuple #[.int .u32 (divQ r (dg ds i) d), .int .u32 (divR r (dg ds i) d)]) ((List.getElem?_toArray ..).trans rfl) (by kernel_rfl) (by kernel_rfl) (by kernel_rfl) (fun _ _ _ h => h) (Or.inl ⟨rfl, fun W hW => ?_⟩) hS2 ?_
    · go_simp
    try simp only [Act.put, List.setIfInBounds_toArray, List.set_cons_zero, List.set_cons_succ]
    refine wpAnyH_take (i := 7) (v := .int .u32 (divQ r (dg ds i) d)) ((List.getElem?_toArray ..).trans rfl) (by kernel_rfl) (by kernel_rfl) (by kernel_rfl) (fun _ _ _ h => h) (Or.inl ⟨rfl, fun W hW => ?_⟩) hS2 ?_
    · go_simp
    try simp only [Act.put, List.setIfInBounds_toArray, List.set_cons_zero, List.set_cons_succ]
    refine wpAnyH_take (i := 8) (v := .int .u32 (divR r (dg ds i) d)) ((List.getElem?_toArray ..).trans rfl) (by kernel_rfl) (by kernel_rfl) (by kernel_rfl) (fun _ _ _ h => h) (Or.inl ⟨rfl, fun W hW => ?_⟩) hS2 ?_
    · go_simp
    try simp only [Act.put, List.setIfInBounds_toArray, List.set_cons_zero, List.set_cons_succ]
    refine wpAnyH_take (i := 9) (v := .pointer (some ⟨h + 1 + 1, i, none⟩)) ((List.getElem?_toArray ..).trans rfl) (by kernel_rfl) (by kernel_rfl) (by kernel_rfl) (fun _ _ _ h => h) (Or.inl ⟨rfl, fun W hW => ?_⟩) hS2 ?_
    · go_simp
    try simp only [Act.put, List.setIfInBounds_toArray, List.set_cons_zero, List.set_cons_succ]
    obtain ⟨W1, hW1⟩ : ∃ W1, Wb.drewN (1 + n) = W1 := ⟨_, rfl⟩
    have u2 : W1.cell? ⟨R, 0, none⟩ = some (.int .u32 r) := by rw [← hW1]; exact s2
    have v2 : W1.frozen? ⟨R, 0, none⟩ = false := by rw [← hW1]; exact f2
    have co1 : W1.cell? ⟨h + 1 + 1, i, none⟩ = some (.int .u32 (dg cs i : Nat)) := by rw [← hW1]; exact co'
    have fo1 : W1.frozen? ⟨h + 1 + 1, i, none⟩ = false := by rw [← hW1]; exact fo'
    rw [hW1] at hS2 ⊢
    have HW1 := Lib.hid hW1
    clear hW1 s0 s1 s2 f2 co' fo'
    refine wpAnyH_ready (rs := [10]) (by kernel_rfl) (by simp) (AllReadyH.cons ((List.getElem?_toArray ..).trans rfl) (fun K hK => ?_) AllReadyH.nil)
    go_simp
    have h0n : h ≠ h + 1 + 1 := by omega
    have h1n : h + 1 ≠ h + 1 + 1 := by omega
    have hRn : R ≠ h + 1 + 1 := by omega
    have h0R : h ≠ R := by omega
    have h1R : h + 1 ≠ R := by omega
    refine hK.out _ _ ⟨(World.cell?_setCell_other _ _ _ _ (by intro e; exact h0n (congrArg Addr.block e).symm)).trans hS2.1, (World.cell?_setCell_other _ _ _ _ (by intro e; exact h1n (congrArg Addr.block e).symm)).trans hS2.2⟩ (fun hS3 => ?_)
    have u3 := (World.cell?_setCell_other W1 ⟨h + 1 + 1, i, none⟩ ⟨R, 0, none⟩ (.int .u32 (divQ r (dg ds i) d)) (by intro e; exact hRn (congrArg Addr.block e).symm)).trans u2
    have v3 : (W1.setCell ⟨h + 1 + 1, i, none⟩ (.int .u32 (divQ r (dg ds i) d))).frozen? ⟨R, 0, none⟩ = false := by rw [World.frozen?_setCell]; exact v2
    clear hK K
    try simp only [Act.put, List.setIfInBounds_toArray, List.set_cons_zero, List.set_cons_succ]
    refine wpAnyH_ready (rs := [11]) (by kernel_rfl) (by simp) (AllReadyH.cons ((List.getElem?_toArray ..).trans rfl) (fun K hK => ?_) AllReadyH.nil)
    go_simp
    refine hK.out _ _ ⟨(World.cell?_setCell_other _ _ _ _ (by intro e; exact h0R (congrArg Addr.block e).symm)).trans hS3.1, (World.cell?_setCell_other _ _ _ _ (by intro e; exact h1R (congrArg Addr.block e).symm)).trans hS3.2⟩ (fun hS4 => ?_)
    clear hK K
    try simp only [Act.put, List.setIfInBounds_toArray, List.set_cons_zero, List.set_cons_succ]
    refine wpAnyH_done (by kernel_rfl) ?_ _
    have hcl := Hcl.out
    have hq : divQ r (dg ds i) d < 4294967296 := by
      unfold divQ
      refine (Nat.div_lt_iff_lt_mul hd0).2 ?_
      omega
    have hr' : divR r (dg ds i) d < d := Nat.mod_lt _ hd0
    have HT2 := ((HT.out.drewN (1 + n)).set (p := ⟨h + 1 + 1, i, none⟩) (Or.inl rfl) (.int .u32 (divQ r (dg ds i) d))).set (p := ⟨R, 0, none⟩) (Or.inr rfl) (.int .u32 (divR r (dg ds i) d))
    have HRg : Row .u32 36 ((W1.setCell ⟨h + 1 + 1, i, none⟩ (.int .u32 (divQ r (dg ds i) d))).setCell ⟨R, 0, none⟩ (.int .u32 (divR r (dg ds i) d))) (h + 1 + 1) (cs.set i (divQ r (dg ds i) d)) := by
      rw [← HW1.out]
      exact ((Hrg.out.keep (w' := Wb.drewN (1 + n)) rfl).set i (divQ r (dg ds i) d) (by omega)).other (Ne.symm hRn) 0 _
    have HRa : Row .u32 36 ((W1.setCell ⟨h + 1 + 1, i, none⟩ (.int .u32 (divQ r (dg ds i) d))).setCell ⟨R, 0, none⟩ (.int .u32 (divR r (dg ds i) d))) R [divR r (dg ds i) d] := by
      rw [← HW1.out]
      have := ((Hra.out.keep (w' := Wb.drewN (1 + n)) rfl).other hRn i (.int .u32 (divQ r (dg ds i) d))).set 0 (divR r (dg ds i) d) (by simp)
      simpa using this
    rw [HW1.out] at HT2
    have hnew : val 4294967296 (ds.drop i) = val 4294967296 ((cs.set i (divQ r (dg ds i) d)).drop i) * d + divR r (dg ds i) d := by
      rw [val_drop (b := 4294967296) (ds := cs.set i (divQ r (dg ds i) d)) (by rw [List.length_set]; omega), dg_set _ _ _ _ (by omega), if_pos rfl, List.drop_set_of_lt (by omega)]
      exact digit_step _ _ d (dg ds i) r _ (val_drop _ hi') Hv.out.out
    refine ⟨?_, HT2, _, cs.set i (divQ r (dg ds i) d), hr', by simpa using hcl, hcd.set _ hq, ?_, HRa, HRg⟩
    · rw [← HW1.out]
      exact (((show KeepsOthers Wb (Wb.drewN (1 + n)) from ⟨Nat.le_refl _, fun _ _ h _ => h⟩).trans (KeepsOthers.setCell _ _ _)).trans (KeepsOthers.setCell _ _ _)).from _
    show _ = _
    rw [Hk2.out]
    exact hnew
  case done =>
    rintro D W hD ⟨hT, r, cs, hrl, hcl, hcd, hv, hra', hrg⟩ hK
    have c1 := (hT.cell (a := ⟨h + 1, 0, none⟩) (by show h + 1 < _; omega) (by show ¬ (h + 1 = h + 1 + 1 ∨ h + 1 = R); omega)).trans k1
    have f1 := (hT.frozen (a := ⟨h + 1, 0, none⟩) (by show h + 1 < _; omega) (by show ¬ (h + 1 = h + 1 + 1 ∨ h + 1 = R); omega)).trans g1
    have cr := hra'.cell (j := 0) (by simp)
    simp only [dg, List.getElem?_cons_zero, Option.getD_some] at cr
    have hBW : Below h w W := ⟨hT.os.trans hB.os, hT.tape.trans hB.tape, hT.output.trans hB.output, Nat.le_trans hB.size hT.size, fun k hk => (hT.block k (by omega) (by omega)).trans (hB.block k hk)⟩
    have hWs := hT.size
    have e1 : h + 1 < W.heap.size := by omega
    have e2 : R < W.heap.size := by omega
    have hall := hrg.all cs.length (Nat.le_refl _)
    rw [hcl] at hall
    have hv' : val 4294967296 ds = val 4294967296 cs * d + r := by have := hv.out; simpa using this
    have hmod : val 4294967296 ds % d = r := by rw [hv', Nat.mul_add_mod_self_right]; exact Nat.mod_eq_of_lt hrl
    have hdiv : val 4294967296 ds / d = val 4294967296 cs := by rw [hv', Nat.mul_comm, Nat.mul_add_div hd0, Nat.div_eq_of_lt hrl, Nat.add_zero]
    have H10 : ∀ w', Below W.heap.size W w' → Calls Try.prog 30 #[.slice (some ⟨h + 1 + 1, 0, none⟩) ds.length ds.length] w' fun e w'' => (∃ v, e = .returned v ∧ Nums .u32 w'' v (cut cs)) ∧ Below w'.heap.size w' w'' := fun w' hB' =>
      trim_any (hall.below hB' (Nat.le_refl _)) (by omega)
    have H1 := Lib.hid H10
    have H2 := Lib.hid (fun W' => of_any r W' (by omega))
    have hcd' : Dig 4294967296 cs := hcd
    have hrw := Lib.hid (show IntKind.u64.wrap ((r : Nat) : Int) = ((r : Nat) : Int) from wraps_u64 _ (by omega) (by omega))
    have HN := Lib.hid (And.intro hdiv hmod)
    have HK := Lib.hid hK
    have hhh := Lib.hid hh
    have hbh : h ≤ W.heap.size := by omega
    have hhD : h ≤ D := by omega
    have hbx := Below.refl W.heap.size W
    clear hK hdiv hmod hv' hv hall H10 hT hra' hrg hWs k0 k1 g1 hr4 hra c3 hne' hat hcl hB hs hh hR
    go_wp2_with fail
    refine wp_region_noPanic ?_
    have hbd : Below W.heap.size W W.drew := hbx.drew
    go_region_with (first
      | (go_at_call 30; have hthis := H1.out W.drew hbd; refine hthis.mono ?_; clear hthis; rintro e w2 ⟨⟨v1, rfl, p1, K1, rfl, at1⟩, hB1⟩; have d1 := (hB1.cell (p := ⟨h + 1, 0, none⟩) e1).trans c1; have df1 := (hB1.frozen (p := ⟨h + 1, 0, none⟩) e1).trans f1; have dr := (hB1.cell (p := ⟨R, 0, none⟩) e2).trans cr; have hB1s := hB1.size)
      | (go_at_call 25; rw [hrw.out]; refine (H2.out _).mono ?_; rintro e w3 ⟨⟨v2, rfl, n2⟩, hB2⟩; have d21 := (hB2.cell (p := ⟨h + 1, 0, none⟩) (Nat.lt_of_lt_of_le e1 hB1s)).trans d1; have df21 := (hB2.frozen (p := ⟨h + 1, 0, none⟩) (Nat.lt_of_lt_of_le e1 hB1s)).trans df1))
    all_goals refine NoPanic.normal ?_
    all_goals
      (go_wp2_with fail
       have hK := HK.out
       have hDl : D < W.heap.size := (Array.getElem?_eq_some_iff.1 hK).1
       have hK2 := (hB1.block D hDl).trans hK
       have hK3 := (hB2.block D (Nat.lt_of_lt_of_le hDl hB1s)).trans hK2
       have hK4 := (KeepsOthers.setCell w3 ⟨h + 1, 0, none⟩ (Value.slice p1 (cut cs).length K1)).same D _ hK3 rfl
       have hc5 := put_cell hK4 (World.cell?_setCell_same' w3 ⟨h + 1, 0, none⟩ (Value.slice p1 (cut cs).length K1) (by rw [d21]; rfl))
       have hBa : Below h w w3 := (hBW.trans (hbd.mono hbh)).trans ((hB1.trans (hB2.mono hB1s)).mono hbh)
       have hB5 := hBa.setCell (p := ⟨h + 1, 0, none⟩) (Nat.le_succ h) (Value.slice p1 (cut cs).length K1)
       have hP := put_below hhD hK4 (hhh.out ▸ hB5.size)
       refine marks_ret (v := .tuple #[.slice p1 (cut cs).length K1, v2]) hK4 ?_ ⟨⟨_, _, rfl, ?_, ?_⟩, ?_⟩
       · simp [results, Try.f51, go_sem, hc5]
       · exact ⟨cut cs, ⟨p1, K1, rfl, ((at1.below hB2 (Nat.le_refl _)).other _ d21 (by intro n h; cases h)).put hK4⟩, can_cut hcd, by rw [val_cut]; exact HN.out.1.symm⟩
       · rw [HN.out.2]
         exact (n2.other _ d21 (by intro n h; cases h)).put hK4
       · rw [hhh.out]
         exact hB5.trans hP)
  case stop => exact fun _ _ _ _ _ _ hf => hf.elim

end Go.Proofs.Ytphhaaofkckobaa
