/-
  What the statement stands on.
-/
import Derived.Test.YtcfgefbkeeedgaaGreatM13
import Derived.Test.YtcfgefbkeeedgaaGreatM14
namespace Go.Proofs.YtcfgefbkeeedgaaGreat
open Go.RowKit
section
attribute [local go_sem] Oper.semAt_some
set_option maxRecDepth 100000 in
set_option maxHeartbeats 2000000 in
theorem shr_any (g cap n K : Nat) (p : Option Addr) (ds cs0 : List Nat) (w : World) (hrow : Row .u32 88 w g cs0) (hc0 : cs0.length = ds.length) (hcd0 : Dig 4294967296 cs0) (hds : Dig 4294967296 ds) (hn : n < 32) (hlen : ds.length ≤ 1000000)
    (hat : At .u32 w p K ds) (hne : ∀ a, p = some a → ds ≠ [] → a.block ≠ g) :
    Calls Tryz.prog 81 #[.slice (some ⟨g, 0, none⟩) ds.length cap, .slice p ds.length K, .int .i64 n] w fun e w' => (∃ v, e = .returned v) ∧
      (∃ cs, cs.length = ds.length ∧ Dig 4294967296 cs ∧ val 4294967296 cs = val 4294967296 ds / 2 ^ n ∧ Row .u32 88 w' g cs) ∧ Only g w w' := by
  refine calls_marks Tryz.func81 rfl ?_
  simp only [Tryz.ntmps81, List.size_toArray, List.length_cons, List.length_nil, Nat.reduceAdd, Nat.reduceSub, Array.replicate_succ, Array.replicate_zero, List.push_toArray, List.append_toArray, List.nil_append, List.cons_append]
  have hgs := hrow.lt
  have hpl := hat.block
  go_wp2_with (go_at_call 63; refine (down_any _ _ _ _).mono ?_; rintro e w' ⟨rfl, rfl⟩)
  obtain ⟨h, hh⟩ : ∃ h, w.heap.size = h := ⟨_, rfl⟩
  obtain ⟨w1, hw1⟩ : ∃ w1, ((((w.alloc (.cells #[.slice (some ⟨g, 0, none⟩) ds.length cap] 35)).alloc (.cells #[.int .i64 n] 3)).alloc (.cells #[.int .u32 0] 88)).alloc (.cells #[.slice p ds.length K] 35)) = w1 := ⟨_, rfl⟩
  have hB : Below w.heap.size w w1 := by rw [← hw1]; exact ((((Below.refl _ w).alloc (Nat.le_refl _) _).alloc (by simp) _).alloc (by simp; omega) _).alloc (by simp; omega) _
  have hs : w1.heap.size = w.heap.size + 4 := by rw [← hw1]; simp
  have c0 : w1.cell? ⟨w.heap.size, 0, none⟩ = some (.slice (some ⟨g, 0, none⟩) ds.length cap) := by rw [← hw1]; simp [go_sem]
  have cn : w1.cell? ⟨w.heap.size + 1, 0, none⟩ = some (.int .i64 n) := by rw [← hw1]; simp [go_sem]
  have hab : Row .u32 88 w1 (w.heap.size + 2) [0] := by
    rw [← hw1]
    unfold Row
    rw [Below.heap_alloc _ _ _ (by simp)]
    have := World.alloc_heap_new ((w.alloc (.cells #[.slice (some ⟨g, 0, none⟩) ds.length cap] 35)).alloc (.cells #[.int .i64 n] 3)) (.cells #[.int .u32 0] 88)
    simpa [cellsOf] using this
  have c3 : w1.cell? ⟨w.heap.size + 1 + 1 + 1, 0, none⟩ = some (.slice p ds.length K) := by rw [← hw1]; simp [go_sem]
  have hrow := hrow.below hB hgs
  have hat := hat.below hB (Nat.le_refl _)
  rw [hw1]
  clear hw1
  have hov : ∀ k, k < w.heap.size → (k = g ∨ k = h + 2) → k = g := fun k hk ho => by omega
  have hB0 := hB
  have hwh : w.heap.size ≤ h := by omega
  rw [hh] at hs c0 cn hab c3 hgs hB hpl ⊢
  clear hh
  have hne' : ∀ a, p = some a → ds ≠ [] → ¬ (a.block = g ∨ a.block = h + 2) := by
    intro a ha hn0 hor
    have h1 := hpl a ha hn0
    have h2 := hne a ha hn0
    omega
  refine rangePlain (gf := 89) (lb := #[.pointer (some ⟨h + 1 + 1 + 1, 0, none⟩)]) rfl (enters_of Tryz.func89 (by kernel_rfl) rfl) ds.length _ (fun _ => rfl)
    (fun k W => Turns (fun b => b = g ∨ b = h + 2) w1 W ∧ Row .u32 88 W (h + 2) [dg ds (ds.length - k)] ∧ ∃ cs, cs.length = ds.length ∧ Dig 4294967296 cs ∧ Hid (val 4294967296 (cs.drop (ds.length - k)) = val 4294967296 (ds.drop (ds.length - k)) / 2 ^ n) ∧ Row .u32 88 W g cs)
    (fun _ _ _ => False)
    (fun s W W' row hs' hg hr => by
      obtain ⟨h1, h2, cs, h3, h4, h5, h6⟩ := hs'
      exact ⟨h1.grown hg (fun r e => (hr r e).1), h2.grown hg (fun r e => (hr r e).2), cs, h3, h4, h5, h6.grown hg (fun r e => (hr r e).2)⟩)
    (fun _ _ _ _ _ hs _ _ => hs)
    ⟨Turns.refl _ _, by rw [Nat.sub_zero, dg_ge (Nat.le_refl _)]; exact hab, cs0, hc0, hcd0, by show _ = _; rw [Nat.sub_zero, List.drop_length, List.drop_of_length_le (by omega)]; simp [val], hrow⟩
    (down_seq 2 (h + 1 + 1 + 1) p K ds hlen _ fun k W hi => ⟨(hi.1.cell (a := ⟨h + 1 + 1 + 1, 0, none⟩) (by show h + 1 + 1 + 1 < _; omega) (by show ¬ (h + 1 + 1 + 1 = g ∨ h + 1 + 1 + 1 = h + 2); omega)).trans c3, hat.turns hi.1 hne'⟩)
    ?round ?done ?stop
  case round =>
    rintro l k W Wb hk ⟨hT, hra, cs, hcl, hcd, hv, hrg⟩
    have c0' := (hT.cell (a := ⟨h, 0, none⟩) (by show h < _; omega) (by show ¬ (h = g ∨ h = h + 2); omega)).trans c0
    have cn' := (hT.cell (a := ⟨h + 1, 0, none⟩) (by show h + 1 < _; omega) (by show ¬ (h + 1 = g ∨ h + 1 = h + 2); omega)).trans cn
    have ca' := hra.cell (j := 0) (by simp)
    have fa' := hra.free 0
    obtain ⟨i, hi, hi'⟩ : ∃ i, ds.length - 1 - k = i ∧ i < ds.length := ⟨_, rfl, by omega⟩
    have hk1 : ds.length - k = i + 1 := by omega
    have hk2 : ds.length - (k + 1) = i := by omega
    rw [hi]
    rw [hk1] at hv ca'
    have co' := hrg.cell (j := i) (by omega)
    have fo' := hrg.free i
    have hdi := hds.dg (by decide) i
    have hdj := hds.dg (by decide) (i + 1)
    have hii : (i : Int) < ((ds.length : Nat) : Int) := by omega
    have Hi := Lib.hid hi; have Hk1 := Lib.hid hk1; have Hk2 := Lib.hid hk2; have Hcl := Lib.hid hcl
    have Hra := Lib.hid hra; have Hrg := Lib.hid hrg; have HT := Lib.hid hT
    simp only [dg, List.getElem?_cons_zero, Option.getD_some] at ca'
    rw [show (ds[i + 1]?.getD 0) = dg ds (i + 1) from rfl] at ca'
    replace ca' : Wb.cell? ⟨h + 1 + 1, 0, none⟩ = some (.int .u32 (dg ds (i + 1) : Nat)) := ca'
    replace fa' : Wb.frozen? ⟨h + 1 + 1, 0, none⟩ = false := fa'
    clear hi hk1 hk2 hcl hra hrg hT
    have hmix : (Tryz.prog).follows .mixedOrders = true := by kernel_rfl
    clear c0 cn hrow hat c3 hab hne hne' hpl hcd0 hc0 hov
    gi_wp2
    refine ⟨trivial, ?_⟩
    gi_wp2
    refine round_still_tail 12 hmix (by kernel_rfl) (by kernel_rfl) (fun _ _ h => h) ?_
    simp only [List.take_succ_cons, List.take_zero, List.drop_succ_cons, List.drop_zero]
    repeat still_step
    try refine wpStill_nil ?_
    have e1 : IntKind.u64.wrap ((dg ds (i + 1) : Nat) : Int) = ((dg ds (i + 1) : Nat) : Int) := wraps_u64 _ (by omega) (by omega)
    have e2 : IntKind.u64.wrap ((dg ds i : Nat) : Int) = ((dg ds i : Nat) : Int) := wraps_u64 _ (by omega) (by omega)
    have e3 : IntKind.u64.wrap (((dg ds (i + 1) : Nat) : Int) * 4294967296) = ((dg ds (i + 1) : Nat) : Int) * 4294967296 := wraps_u64 _ (by omega) (by omega)
    rw [e1, e2, e3, or_hi _ _ hdj hdi]
    have e4 : IntKind.u32.wrap (((dg ds (i + 1) * 4294967296 + dg ds i : Nat) : Int) / 2 ^ n) = (((dg ds (i + 1) * 4294967296 + dg ds i) / 2 ^ n % 4294967296 : Nat) : Int) := by
      rw [IntKind.wrap_u32]; simp
    rw [e4]
    obtain ⟨X, hX⟩ : ∃ X, (dg ds (i + 1) * 4294967296 + dg ds i) / 2 ^ n % 4294967296 = X := ⟨_, rfl⟩
    rw [hX]
    have HX := Lib.hid hX
    clear e1 e2 e3 e4 hX
    change wpList _ _ _ _ _ Wb.drew
    go_wp2_with fail
    have ca2 : (Wb.setCell ⟨g, i, none⟩ (.int .u32 X)).cell? ⟨h + 1 + 1, 0, none⟩ = some (.int .u32 (dg ds (i + 1) : Nat)) := (World.cell?_setCell_other _ _ _ _ (by intro e; have := congrArg Addr.block e; simp at this; omega)).trans ca'
    have fa2 : (Wb.setCell ⟨g, i, none⟩ (.int .u32 X)).frozen? ⟨h + 1 + 1, 0, none⟩ = false := by rw [World.frozen?_setCell]; exact fa'
    gi_wp2
    have hcl := Hcl.out
    have hgne : g ≠ h + 2 := by omega
    have HR : Row .u32 88 ((Wb.setCell ⟨g, i, none⟩ (.int .u32 X)).setCell ⟨h + 2, 0, none⟩ (.int .u32 (dg ds i : Nat))) g (cs.set i X) := (Hrg.out.set i X (by omega)).other hgne 0 _
    have HA : Row .u32 88 ((Wb.setCell ⟨g, i, none⟩ (.int .u32 X)).setCell ⟨h + 2, 0, none⟩ (.int .u32 (dg ds i : Nat))) (h + 2) [dg ds i] := by
      have := (Hra.out.other (Ne.symm hgne) i (.int .u32 X)).set 0 (dg ds i) (by simp)
      simpa using this
    have HT2 := (HT.out.set (p := ⟨g, i, none⟩) (Or.inl rfl) (.int .u32 X)).set (p := ⟨h + 2, 0, none⟩) (Or.inr rfl) (.int .u32 (dg ds i : Nat))
    have hXl : X < 4294967296 := by rw [← HX.out]; exact Nat.mod_lt _ (by decide)
    have hnew : val 4294967296 ((cs.set i X).drop i) = val 4294967296 (ds.drop i) / 2 ^ n := by
      rw [val_drop _ (by simpa using (by omega : i < cs.length)), dg_set _ _ _ _ (by omega), if_pos rfl, List.drop_set_of_lt (by omega), hv.out, val_shr ds i n hn hi' hds, HX.out]
    refine ⟨(((KeepsOthers.setCell _ _ _).trans (KeepsOthers.setCell _ _ _)).trans (KeepsOthers.drew _)).from _, HT2.drew, by rw [Hk2.out]; exact HA.keep rfl, cs.set i X, by simpa using hcl, hcd.set _ hXl, ?_, HR.keep rfl⟩
    show _ = _
    rw [Hk2.out]
    exact hnew
  case done =>
    rintro D W hD ⟨hT, _, cs, hcl, hcd, hv, hrg⟩ hK
    go_wp2
    have hO : Only g w W := hT.only hB0 hov
    refine ⟨by simp, .inl ⟨_, _, rfl, run_takeDeferred hK, .tuple #[], by simp [results, Tryz.f81, go_sem], ⟨_, rfl⟩, ⟨cs, hcl, hcd, by have := hv.out; simpa using this, ?_⟩, ?_⟩⟩
    · exact hrg.keep (World.putObj_heap_other (by omega))
    · exact ⟨hO.os, hO.tape, hO.output, by simpa using hO.size, fun k hk hn => (World.putObj_heap_other (by omega)).trans (hO.block k hk hn)⟩
  case stop => exact fun _ _ _ _ _ _ hf => hf.elim
end
section
attribute [local go_sem] Oper.semAt_some
theorem val_div {b : Nat} (ds : List Nat) (k : Nat) (hd : Dig b ds) (hk : k ≤ ds.length) (hb : 0 < b) : val b ds / b ^ k = val b (ds.drop k) := by
  have e : val b ds = val b (ds.take k) + b ^ k * val b (ds.drop k) := by
    conv => lhs; rw [(List.take_append_drop k ds).symm]
    rw [val_append, show (ds.take k).length = k by simp; omega]
  have h1 := val_lt (hd.take k)
  rw [show (ds.take k).length = k by simp; omega] at h1
  rw [e, Nat.add_mul_div_left _ _ (Nat.pow_pos hb), Nat.div_eq_of_lt h1, Nat.zero_add]
theorem right_val (ds : List Nat) (n : Nat) (hd : Dig 4294967296 ds) (hn : n / 32 ≤ ds.length) : val 4294967296 ds / 2 ^ n = val 4294967296 (ds.drop (n / 32)) / 2 ^ (n % 32) := by
  rw [← val_div ds (n / 32) hd hn (by decide), show (4294967296 : Nat) = 2 ^ 32 from by decide, ← Nat.pow_mul, Nat.div_div_eq_div_mul, ← Nat.pow_add, show 32 * (n / 32) + n % 32 = n by omega]
theorem right_zero (ds : List Nat) (n : Nat) (hd : Dig 4294967296 ds) (hn : ds.length ≤ n / 32) : val 4294967296 ds / 2 ^ n = 0 := by
  refine Nat.div_eq_of_lt (Nat.lt_of_lt_of_le (val_lt hd) ?_)
  rw [show (4294967296 : Nat) = 2 ^ 32 from by decide, ← Nat.pow_mul]
  exact Nat.pow_le_pow_right (by decide) (by omega)
set_option maxRecDepth 100000 in
set_option maxHeartbeats 2000000 in
theorem right_any {va : Value} {m : Nat} {w : World} (ha : IsNat w va m) (hm : m < maxN) (n : Nat) (hn : n ≤ 9223372036854775807) :
    Calls Tryz.prog 50 #[va, .int .i64 n] w fun e w' => (∃ v, e = .returned (.tuple #[v, .int .i64 0]) ∧ IsNat w' v (m / 2 ^ n)) ∧ Below w.heap.size w w' := by
  obtain ⟨ds, hv1, hc1, rfl⟩ := ha
  have hl1 : ds.length ≤ 512 := hc1.len_max.2 hm
  have C1 := trim_any hv1 (by omega)
  rw [hc1.2] at C1
  have H1 := Lib.hid C1
  obtain ⟨q1, k1, rfl, -⟩ := hv1
  clear hm C1
  have hni : (n : Int) ≤ 9223372036854775807 := by omega
  have hneg : ¬ (n : Int) < 0 := by omega
  go_enter Tryz.func50, Tryz.ntmps50
  go_wp2_with fail
  refine H1.out.mono ?_
  rintro e w1 ⟨⟨v1, rfl, hr1⟩, hB⟩
  clear H1
  obtain ⟨p1, K1, rfl, at1⟩ := hr1
  by_cases hbig : ds.length ≤ n / 32
  · have hE := Lib.hid (right_zero ds n hc1.1 hbig)
    have hbig' : ((ds.length : Nat) : Int) ≤ (n : Int) / 32 := by omega
    clear hbig
    go_wp2
    go_ret2
    exact ⟨⟨_, rfl, [], .nil _ _, Can.nil _, by rw [hE.out]; rfl⟩, hB⟩
  · have hE := Lib.hid (right_val ds n hc1.1 (by omega))
    have hbig' : (n : Int) / 32 < ((ds.length : Nat) : Int) := by omega
    obtain ⟨b1, o1, rfl, hk1, hb1, hx1⟩ := at1.pos (by omega)
    have hK : ((ds.length : Nat) : Int) ≤ (K1 : Int) := by omega
    clear at1
    obtain ⟨wb, rfl⟩ : ∃ wb : World, wb = w1 := ⟨_, rfl⟩
    go_upto_region 8 with (at_make; refine make_nat rfl _ _ rfl _ _ (ds.length - n / 32) rfl rfl ?hL ?hC ?hn wb.heap.size wb (Below.refl _ _) (Nat.le_refl _) (fun w3 hr3 hB3 hB3' => ?_))
    case hL => omega
    case hC => omega
    case hn => omega
    have hdl : (ds.drop (n / 32)).length = ds.length - n / 32 := by simp
    have at3 : At .u32 w3 (some ⟨b1, o1 + n / 32, none⟩) (K1 - n / 32) (ds.drop (n / 32)) := by
      refine .inr ⟨b1, o1 + n / 32, rfl, by rw [hdl]; omega, Nat.lt_of_lt_of_le hb1 hB3.size, fun j hj => ?_⟩
      rw [hdl] at hj
      rw [dg_drop, Nat.add_assoc]
      exact (hB3.cell (p := ⟨b1, o1 + (n / 32 + j), none⟩) hb1).trans (hx1 _ (by omega))
    have S := shr_any wb.heap.size (ds.length - n / 32) (n % 32) (K1 - n / 32) (some ⟨b1, o1 + n / 32, none⟩) (ds.drop (n / 32)) (List.replicate (ds.length - n / 32) 0) w3 hr3 (by simp) (fun x hx => by simp at hx; omega) (hc1.1.drop _) (Nat.mod_lt _ (by decide)) (by omega) at3 (by intro a ha _; cases ha; exact Nat.ne_of_lt hb1)
    rw [hdl] at S
    have S := Lib.hid S
    clear hx1 hdl at3; go_wp2_with fail
    rw [show ((n : Int) % 32) = ((n % 32 : Nat) : Int) by omega]
    refine S.out.mono ?_
    rintro e w4 ⟨⟨v4, rfl⟩, ⟨cs, hcl, hcd, hcv, hrow⟩, hO⟩
    have hB4 : Below wb.heap.size wb w4 := hO.below hB3 (Nat.le_refl _) hB3.size
    have hn4 := hrow.all (ds.length - n / 32) (by omega)
    rw [hcl] at hn4
    have W := Lib.hid (within_any hn4 (by omega))
    have HV := Lib.hid (show val 4294967296 (cut cs) = val 4294967296 ds / 2 ^ n by rw [val_cut, hcv, hE.out])
    have HBB := Lib.hid (hB.trans (hB4.mono hB.size))
    have hl5 : (cut cs).length ≤ 512 := by have := cut_le cs; omega
    clear hcl hcv hrow hn4 S hO
    go_wp2_with (go_at_call 82; refine W.out.mono ?_; rintro e w5 ⟨⟨v5, c5, rfl, hfit⟩, hB5⟩)
    go_ret2
    obtain ⟨h1, h2⟩ := hfit.1 hl5
    subst h1
    exact ⟨⟨_, rfl, _, h2, can_cut hcd, HV.out⟩, HBB.out.trans (hB5.mono HBB.out.size)⟩
theorem len_two {ds : List Nat} (h : Can 4294967296 ds) : 2 < ds.length ↔ 18446744073709551616 ≤ val 4294967296 ds := by
  have := h.len_le (by decide) 2
  omega
def SmallPost (m : Nat) (w : World) (e : Ending) (w' : World) : Prop := ((m < 18446744073709551616 ∧ e = .returned (.tuple #[.int .u64 m, .int .i64 0])) ∨ (18446744073709551616 ≤ m ∧ e = .returned (.tuple #[.int .u64 0, .int .i64 11]))) ∧ Below w.heap.size w w'
set_option maxRecDepth 100000 in
set_option maxHeartbeats 2000000 in
theorem small_any {va : Value} {m : Nat} {w : World} (ha : IsNat w va m) (hm : m < maxN) : Calls Tryz.prog 78 #[va] w (SmallPost m w) := by
  obtain ⟨ds, hv1, hc1, rfl⟩ := ha
  have hl1 : ds.length ≤ 512 := hc1.len_max.2 hm
  have C1 := trim_any hv1 (by omega)
  rw [hc1.2] at C1
  have H1 := Lib.hid C1
  have H2 := Lib.hid (len_two hc1)
  obtain ⟨q1, k1, rfl, -⟩ := hv1
  clear hm C1
  refine calls_marks Tryz.func78 rfl ?_
  simp only [Tryz.ntmps78, List.size_toArray, List.length_cons, List.length_nil, Nat.reduceAdd, Nat.reduceSub, Array.replicate_succ, Array.replicate_zero, List.push_toArray, List.append_toArray, List.nil_append, List.cons_append]
  go_wp2_with fail
  refine H1.out.mono ?_
  rintro e w1 ⟨⟨v1, rfl, hr1⟩, hB⟩
  clear H1
  obtain ⟨p1, K1, rfl, at1⟩ := hr1
  by_cases h2 : 2 < ds.length
  · have h2' : (2 : Int) < ((ds.length : Nat) : Int) := by omega
    have hge := Lib.hid (H2.out.1 h2)
    clear h2; go_wp2_with fail
    exact marks_ret0 (v := .tuple #[.int .u64 0, .int .i64 11]) (by simp [results, Tryz.f78, go_sem]) ⟨.inr ⟨hge.out, rfl⟩, hB⟩
  · have h2' : ¬ (2 : Int) < ((ds.length : Nat) : Int) := by omega
    have hlt := Lib.hid (show val 4294967296 ds < 18446744073709551616 by
      have := H2.out; omega)
    go_wp2_with (go_at_call 63; refine (down_any _ _ _ _).mono ?_; rintro e w' ⟨rfl, rfl⟩)
    obtain ⟨h, hh⟩ : ∃ h, w1.heap.size = h := ⟨_, rfl⟩
    obtain ⟨w2, hw2⟩ : ∃ w2, ((w1.alloc (.cells #[.int .u64 0] 69)).alloc (.cells #[.slice p1 ds.length K1] 35)) = w2 := ⟨_, rfl⟩
    have hB2 : Below w1.heap.size w1 w2 := by rw [← hw2]; exact ((Below.refl _ w1).alloc (Nat.le_refl _) _).alloc (by simp) _
    have hs : w2.heap.size = w1.heap.size + 2 := by rw [← hw2]; simp
    have hra : Row .u64 69 w2 w1.heap.size [0] := by
      rw [← hw2]
      unfold Row
      rw [Below.heap_alloc _ _ _ (by simp)]
      exact World.alloc_heap_new _ _
    have c3 : w2.cell? ⟨w1.heap.size + 1, 0, none⟩ = some (.slice p1 ds.length K1) := by rw [← hw2]; simp [go_sem]
    have hpl := at1.block
    have at1 := at1.below hB2 (Nat.le_refl _)
    have hBx := hB.trans (hB2.mono hB.size)
    have hwh := hB.size
    rw [hw2]
    clear hw2
    rw [hh] at hs hra c3 hB2 hpl hwh ⊢
    clear hh
    have hne' : ∀ a, p1 = some a → ds ≠ [] → ¬ (a.block = h) := fun a ha hne => by have := hpl a ha hne; omega
    refine rangePlain (gf := 89) (lb := #[.pointer (some ⟨h + 1, 0, none⟩)]) rfl (enters_of Tryz.func89 (by kernel_rfl) rfl) ds.length _ (fun _ => rfl)
      (fun k W => Turns (fun b => b = h) w2 W ∧ Row .u64 69 W h [val 4294967296 (ds.drop (ds.length - k))])
      (fun _ _ _ => False)
      (fun s W W' row hs' hg hr => ⟨hs'.1.grown hg (fun r e => (hr r e).1), hs'.2.grown hg (fun r e => (hr r e).2)⟩)
      (fun _ _ _ _ _ hs _ _ => hs)
      ⟨Turns.refl _ _, by rw [Nat.sub_zero, List.drop_length]; exact hra⟩
      (down_seq 2 (h + 1) p1 K1 ds (by omega) _ fun k W hi => ⟨(hi.1.cell (a := ⟨h + 1, 0, none⟩) (by show h + 1 < _; omega) (by show ¬ (h + 1 = h); omega)).trans c3, at1.turns hi.1 hne'⟩)
      ?round ?done ?stop
    case round =>
      rintro l k W Wb hk ⟨hT, hr⟩
      have ca' := hr.cell (j := 0) (by simp)
      have fa' := hr.free 0
      obtain ⟨i, hi, hi'⟩ : ∃ i, ds.length - 1 - k = i ∧ i < ds.length := ⟨_, rfl, by omega⟩
      have hk1 : ds.length - k = i + 1 := by omega
      have hk2 : ds.length - (k + 1) = i := by omega
      have hx : val 4294967296 (ds.drop (i + 1)) < 4294967296 := by
        have h1 := val_lt (hc1.1.drop (i + 1))
        have h3 : (ds.drop (i + 1)).length ≤ 1 := by simp; omega
        exact Nat.lt_of_lt_of_le h1 (Nat.pow_le_pow_right (by decide) h3)
      have hstep := val_drop 4294967296 hi'
      have hdi := hc1.1.dg (by decide) i
      rw [hi]
      rw [hk1] at ca'
      simp only [dg, List.getElem?_cons_zero, Option.getD_some] at ca'
      obtain ⟨X, hX⟩ : ∃ X, val 4294967296 (ds.drop (i + 1)) = X := ⟨_, rfl⟩
      rw [hX] at ca' hx hstep
      have Hi := Lib.hid hi; have Hk2 := Lib.hid hk2; have Hs := Lib.hid hstep; have Hr := Lib.hid hr; have HT := Lib.hid hT
      clear hi hk1 hk2 hstep hX hr hT at1 hra c3
      have HO := Lib.hid (or_hi X (dg ds i) hx hdi)
      gi_wp2
      refine ⟨trivial, ?_⟩
      gi_wp2
      rw [HO.out]
      refine ⟨(KeepsOthers.setCell _ _ _).from _, HT.out.set (p := ⟨h, 0, none⟩) rfl _, ?_⟩
      have hset := Hr.out.set 0 (X * 4294967296 + dg ds i) (by simp)
      rw [Hk2.out, Hs.out]
      rw [show dg ds i + 4294967296 * X = X * 4294967296 + dg ds i by omega]
      simpa using hset
    case done =>
      rintro D W hD ⟨hT, hr⟩ hK
      have ca' := hr.cell (j := 0) (by simp)
      rw [Nat.sub_self, List.drop_zero] at ca'
      simp only [dg, List.getElem?_cons_zero, Option.getD_some] at ca'
      go_wp2
      refine marks_ret (v := .tuple #[.int .u64 (val 4294967296 ds : Nat), .int .i64 0]) hK (by simp [results, Tryz.f78, go_sem]) ⟨.inl ⟨hlt.out, rfl⟩, ?_⟩
      have hBW : Below w.heap.size w W := ⟨hT.os.trans hBx.os, hT.tape.trans hBx.tape, hT.output.trans hBx.output, Nat.le_trans hBx.size hT.size, fun k hk => (hT.block k (by omega) (by omega)).trans (hBx.block k hk)⟩
      exact hBW.trans (put_below (by omega) hK hBW.size)
    case stop => exact fun _ _ _ _ _ _ hf => hf.elim
end
theorem take_step (seg ys : List Nat) (k q c b N : Nat) (hk : k < seg.length) (hky : k < ys.length) (hs : Dig 4294967296 seg) (hb : b ≤ 1)
    (hv : val 4294967296 seg + q * val 4294967296 ys = N + (c + b) * 4294967296 ^ k + 4294967296 ^ k * (q * val 4294967296 (ys.drop k))) :
    val 4294967296 (seg.set k (subD (dg seg k) ((q * dg ys k + c) % 4294967296) b)) + q * val 4294967296 ys =
      N + ((q * dg ys k + c) / 4294967296 + subB (dg seg k) ((q * dg ys k + c) % 4294967296) b) * 4294967296 ^ (k + 1) + 4294967296 ^ (k + 1) * (q * val 4294967296 (ys.drop (k + 1))) := by
  have h1 := val_set 4294967296 seg k (subD (dg seg k) ((q * dg ys k + c) % 4294967296) b) hk
  have h2 := val_drop 4294967296 hky
  have h3 := (subD_eq (dg seg k) ((q * dg ys k + c) % 4294967296) b (hs.dg (by decide) k) (Nat.mod_lt _ (by decide)) hb).1
  have h4 := Nat.div_add_mod (q * dg ys k + c) 4294967296
  rw [Nat.pow_succ]
  generalize subD (dg seg k) ((q * dg ys k + c) % 4294967296) b = s at *
  generalize subB (dg seg k) ((q * dg ys k + c) % 4294967296) b = b' at *
  generalize (q * dg ys k + c) % 4294967296 = m at *
  generalize (q * dg ys k + c) / 4294967296 = d at *
  generalize (4294967296 : Nat) ^ k = p at *
  grind
theorem take_last (seg : List Nat) (n c b N M : Nat) (hk : n < seg.length) (hs : Dig 4294967296 seg) (hc : c < 4294967296) (hb : b ≤ 1)
    (hv : val 4294967296 seg + M = N + (c + b) * 4294967296 ^ n) :
    val 4294967296 (seg.set n (subD (dg seg n) c b)) + M = N + subB (dg seg n) c b * 4294967296 ^ (n + 1) := by
  have h1 := val_set 4294967296 seg n (subD (dg seg n) c b) hk
  have h3 := (subD_eq (dg seg n) c b (hs.dg (by decide) n) hc hb).1
  rw [Nat.pow_succ]
  generalize subD (dg seg n) c b = s at *
  generalize subB (dg seg n) c b = b' at *
  generalize (4294967296 : Nat) ^ n = p at *
  grind
def TakePost (g q : Nat) (lo seg hi ys : List Nat) (w : World) (e : Ending) (w' : World) : Prop := ∃ (b : Bool) (seg' : List Nat), e = .returned (.bool b) ∧ seg'.length = seg.length ∧ Dig 4294967296 seg' ∧
  val 4294967296 seg' + q * val 4294967296 ys = val 4294967296 seg + (if b then 4294967296 ^ seg.length else 0) ∧ Row .u32 88 w' g (lo ++ (seg' ++ hi)) ∧ Only g w w'
set_option maxRecDepth 100000 in
set_option maxHeartbeats 1000000 in
theorem take_any (g off cap K2 q b2 o2 : Nat) (lo seg hi ys : List Nat) (w : World) (hoff : off = lo.length) (hrow : Row .u32 88 w g (lo ++ (seg ++ hi))) (hseg : seg.length = ys.length + 1) (hds : Dig 4294967296 seg) (hys : Dig 4294967296 ys) (hq : q < 4294967296) (hlen : ys.length ≤ 1000000)
    (hb2 : b2 < w.heap.size) (hne : b2 ≠ g) (hy2 : ∀ j, j < ys.length → w.cell? ⟨b2, o2 + j, none⟩ = some (.int .u32 ((dg ys j : Nat) : Int))) :
    Calls Tryz.prog 111 #[.slice (some ⟨g, off, none⟩) (ys.length + 1) cap, .slice (some ⟨b2, o2, none⟩) ys.length K2, .int .u32 q] w (TakePost g q lo seg hi ys w) := by
  have A32 := Lib.hid (fun x y c W hx hy hc => sub32 x y c W hx hy hc)
  go_enter Tryz.func111, Tryz.ntmps111
  go_wp2_with fail
  go_loopw [7, 8, 14] (fun sc sb si wr => ∃ (k c b : Nat) (seg' : List Nat), k ≤ ys.length ∧ si = .int .i64 k ∧ sc = .int .u32 c ∧ sb = .int .u32 b ∧ c < 4294967296 ∧ b ≤ 1 ∧ seg'.length = seg.length ∧ Dig 4294967296 seg' ∧
      Hid (val 4294967296 seg' + q * val 4294967296 ys = val 4294967296 seg + (c + b) * 4294967296 ^ k + 4294967296 ^ k * (q * val 4294967296 (ys.drop k))) ∧ Row .u32 88 wr g (lo ++ (seg' ++ hi)) ∧ Only g w wr) (fun _ _ si _ => ys.length - (intOf si).toNat)
  case atStart => exact ⟨0, 0, 0, seg, by omega, rfl, rfl, rfl, by omega, by omega, rfl, hds, by show _ = _; simp, hrow, Only.refl _ _⟩
  case round =>
    clear hrow
    obtain ⟨k, c, b, seg', hk, rfl, rfl, rfl, hc, hb, hcl, hcd, hval, hrow, hO⟩ := hrel
    by_cases hlt : k < ys.length
    · have hy := (hO.cell (a := ⟨b2, o2 + k, none⟩) hb2 hne).trans (hy2 k hlt)
      have ho := hrow.cell (j := lo.length + k) (by simp; omega)
      have hf := hrow.free (lo.length + k)
      rw [dg_mid (by omega)] at ho
      rw [← hoff] at ho hf
      have hdy : dg ys k < 4294967296 := hys.dg (by decide) k
      have hdz : dg seg' k < 4294967296 := hcd.dg (by decide) k
      obtain ⟨hm, hcc⟩ := times_carry q (dg ys k) c 0 hq hdy hc (by decide)
      have hm0 : (0 : Int) ≤ (q : Int) * (dg ys k : Int) := by rw [← Int.natCast_mul]; omega
      have hm1 : (q : Int) * (dg ys k : Int) ≤ 18446744065119617025 := by rw [← Int.natCast_mul]; omega
      have hli : (k : Int) < ((ys.length : Nat) : Int) := by omega
      have hli2 : (k : Int) < ((ys.length : Nat) : Int) + 1 := by omega
      have hcc' : ((q : Int) * (dg ys k : Int) + (c : Int)) / 4294967296 < 4294967296 := by
        have : (((q * dg ys k + c + 0) / 4294967296 : Nat) : Int) < 4294967296 := by omega
        simpa using this
      have HL := Lib.hid hcl
      have HCC := Lib.hid hcc
      have hrowH := Lib.hid hrow
      have HO := Lib.hid hO
      have HS := Lib.hid hseg
      have HF := Lib.hid hoff
      clear hcl hm hcc hrow hO hy2 hseg hoff
      have e1 : ((q : Int) * (dg ys k : Int) + (c : Int)) % 4294967296 = (((q * dg ys k + c) % 4294967296 : Nat) : Int) := by simp
      have e2 : ((q : Int) * (dg ys k : Int) + (c : Int)) / 4294967296 = (((q * dg ys k + c) / 4294967296 : Nat) : Int) := by simp
      have E1 := Lib.hid e1; have E2 := Lib.hid e2
      clear e1 e2; go_wp2_with fail
      rw [E1.out]
      refine (A32.out _ _ _ _ hdz (Nat.mod_lt _ (by decide)) hb).mono ?_
      rintro e w' ⟨rfl, rfl⟩
      go_wp2_with fail
      rw [E2.out]
      have hcl := HL.out; have hseg := HS.out; have hoff := HF.out
      obtain ⟨s1, s2, s3⟩ := subD_eq (dg seg' k) ((q * dg ys k + c) % 4294967296) b hdz (Nat.mod_lt _ (by decide)) hb
      refine ⟨⟨k + 1, (q * dg ys k + c) / 4294967296, subB (dg seg' k) ((q * dg ys k + c) % 4294967296) b, seg'.set k (subD (dg seg' k) ((q * dg ys k + c) % 4294967296) b), by omega, by go_num, rfl, rfl, HCC.out, s3, by simpa using hcl, hcd.set _ s2,
        take_step seg' ys k q c b _ (by omega) hlt hcd hb hval.out, ?_, HO.out.set (off + k) _⟩, by simp [intOf]; omega⟩
      rw [← set_mid _ (by omega)]
      rw [hoff]
      exact hrowH.out.set (lo.length + k) _ (by simp; omega)
    · have hky : k = ys.length := by omega
      have ho := hrow.cell (j := lo.length + ys.length) (by simp; omega)
      have hf := hrow.free (lo.length + ys.length)
      rw [dg_mid (by omega)] at ho
      rw [← hoff] at ho hf
      have hdz : dg seg' ys.length < 4294967296 := hcd.dg (by decide) ys.length
      have hv0 : val 4294967296 seg' + q * val 4294967296 ys = val 4294967296 seg + (c + b) * 4294967296 ^ ys.length := by
        have h1 := hval.out
        rw [hky, List.drop_length] at h1
        simpa [val] using h1
      have HT := Lib.hid (take_last seg' ys.length c b _ _ (by omega) hcd hc hb hv0)
      obtain ⟨s1, s2, s3⟩ := subD_eq (dg seg' ys.length) c b hdz hc hb
      have hset := hrow.set (lo.length + ys.length) (subD (dg seg' ys.length) c b) (by simp; omega)
      rw [set_mid _ (by omega), ← hoff] at hset
      have hlt' : ¬ (k : Int) < ((ys.length : Nat) : Int) := by omega
      have hli2 : ((ys.length : Nat) : Int) < ((ys.length : Nat) : Int) + 1 := by omega
      have HS := Lib.hid hseg; have HL := Lib.hid hcl; have HR := Lib.hid hset; have HO := Lib.hid hO
      clear hv0 hky hval hrow hy2 hset hO hseg hcl hoff s1
      have hlen' : ((ys.length : Nat) : Int) ≤ 1000000 := by omega
      by_cases hbb : subB (dg seg' ys.length) c b = 1
      · have hbp : (0 : Int) < (subB (dg seg' ys.length) c b : Int) := by omega
        have HB := Lib.hid hbb
        clear hbb
        go_wp2_with (go_at_call 115; refine (A32.out _ _ _ _ hdz hc hb).mono ?_; rintro e w' ⟨rfl, rfl⟩)
        go_ret
        refine ⟨true, seg'.set ys.length (subD (dg seg' ys.length) c b), ret_one (by show Value.bool _ = Value.bool _; congr 1; simp [HB.out]), by have := HL.out; simpa using this, hcd.set _ s2, ?_, HR.out, HO.out.set (off + ys.length) _⟩
        rw [HT.out, HB.out, if_pos rfl, HS.out, Nat.one_mul]
      · have hbz : subB (dg seg' ys.length) c b = 0 := by omega
        have hbp : ¬ (0 : Int) < (subB (dg seg' ys.length) c b : Int) := by omega
        have HB := Lib.hid hbz
        clear hbb hbz
        go_wp2_with (go_at_call 115; refine (A32.out _ _ _ _ hdz hc hb).mono ?_; rintro e w' ⟨rfl, rfl⟩)
        go_ret
        refine ⟨false, seg'.set ys.length (subD (dg seg' ys.length) c b), ret_one ?_, by have := HL.out; simpa using this, hcd.set _ s2, ?_, HR.out, HO.out.set (off + ys.length) _⟩
        · show Value.bool _ = Value.bool _
          congr 1
          simp [HB.out]
        · rw [HT.out, HB.out, Nat.zero_mul]; rfl
theorem give_step (seg ys : List Nat) (k c N : Nat) (hk : k < seg.length) (hky : k < ys.length)
    (hv : val 4294967296 seg + c * 4294967296 ^ k + 4294967296 ^ k * val 4294967296 (ys.drop k) = N) :
    val 4294967296 (seg.set k ((dg seg k + dg ys k + c) % 4294967296)) + (dg seg k + dg ys k + c) / 4294967296 * 4294967296 ^ (k + 1) + 4294967296 ^ (k + 1) * val 4294967296 (ys.drop (k + 1)) = N := by
  have h1 := val_set 4294967296 seg k ((dg seg k + dg ys k + c) % 4294967296) hk
  have h2 := val_drop 4294967296 hky
  have h3 := Nat.div_add_mod (dg seg k + dg ys k + c) 4294967296
  rw [Nat.pow_succ]
  generalize (4294967296 : Nat) ^ k = p at *
  generalize (dg seg k + dg ys k + c) % 4294967296 = s at *
  generalize (dg seg k + dg ys k + c) / 4294967296 = d at *
  grind
theorem give_last (seg : List Nat) (n c N : Nat) (hk : n < seg.length) (hv : val 4294967296 seg + c * 4294967296 ^ n = N) :
    val 4294967296 (seg.set n ((dg seg n + c) % 4294967296)) + (dg seg n + c) / 4294967296 * 4294967296 ^ (n + 1) = N := by
  have h1 := val_set 4294967296 seg n ((dg seg n + c) % 4294967296) hk
  have h3 := Nat.div_add_mod (dg seg n + c) 4294967296
  rw [Nat.pow_succ]
  generalize (4294967296 : Nat) ^ n = p at *
  generalize (dg seg n + c) % 4294967296 = s at *
  generalize (dg seg n + c) / 4294967296 = d at *
  grind
def GivePost (g : Nat) (lo seg hi ys : List Nat) (w : World) (e : Ending) (w' : World) : Prop := (∃ v, e = .returned v) ∧ ∃ (c : Nat) (seg' : List Nat), seg'.length = seg.length ∧ Dig 4294967296 seg' ∧
  val 4294967296 seg' + c * 4294967296 ^ seg.length = val 4294967296 seg + val 4294967296 ys ∧ Row .u32 88 w' g (lo ++ (seg' ++ hi)) ∧ Only g w w'
set_option maxRecDepth 100000 in
set_option maxHeartbeats 1000000 in
theorem give_any (g off cap K2 b2 o2 : Nat) (lo seg hi ys : List Nat) (w : World) (hoff : off = lo.length) (hrow : Row .u32 88 w g (lo ++ (seg ++ hi))) (hseg : seg.length = ys.length + 1) (hds : Dig 4294967296 seg) (hys : Dig 4294967296 ys) (hlen : ys.length ≤ 1000000)
    (hb2 : b2 < w.heap.size) (hne : b2 ≠ g) (hy2 : ∀ j, j < ys.length → w.cell? ⟨b2, o2 + j, none⟩ = some (.int .u32 ((dg ys j : Nat) : Int))) :
    Calls Tryz.prog 112 #[.slice (some ⟨g, off, none⟩) (ys.length + 1) cap, .slice (some ⟨b2, o2, none⟩) ys.length K2] w (GivePost g lo seg hi ys w) := by
  have A32 := Lib.hid (fun x y c W hx hy hc => add32 x y c W hx hy hc)
  go_enter Tryz.func112, Tryz.ntmps112
  go_wp2_with fail
  go_loopw [4, 9] (fun sc si wr => ∃ (k c : Nat) (seg' : List Nat), k ≤ ys.length ∧ si = .int .i64 k ∧ sc = .int .u32 c ∧ c ≤ 1 ∧ seg'.length = seg.length ∧ Dig 4294967296 seg' ∧
      Hid (val 4294967296 seg' + c * 4294967296 ^ k + 4294967296 ^ k * val 4294967296 (ys.drop k) = val 4294967296 seg + val 4294967296 ys) ∧ Row .u32 88 wr g (lo ++ (seg' ++ hi)) ∧ Only g w wr) (fun _ si _ => ys.length - (intOf si).toNat)
  case atStart => exact ⟨0, 0, seg, by omega, rfl, rfl, by omega, rfl, hds, by show _ = _; simp, hrow, Only.refl _ _⟩
  case round =>
    clear hrow
    obtain ⟨k, c, seg', hk, rfl, rfl, hc, hcl, hcd, hval, hrow, hO⟩ := hrel
    by_cases hlt : k < ys.length
    · have hy := (hO.cell (a := ⟨b2, o2 + k, none⟩) hb2 hne).trans (hy2 k hlt)
      have ho := hrow.cell (j := lo.length + k) (by simp; omega)
      have hf := hrow.free (lo.length + k)
      rw [dg_mid (by omega)] at ho
      rw [← hoff] at ho hf
      have hdy : dg ys k < 4294967296 := hys.dg (by decide) k
      have hdz : dg seg' k < 4294967296 := hcd.dg (by decide) k
      have hli : (k : Int) < ((ys.length : Nat) : Int) := by omega
      have hli2 : (k : Int) < ((ys.length : Nat) : Int) + 1 := by omega
      have HL := Lib.hid hcl
      have hrowH := Lib.hid hrow
      have HO := Lib.hid hO
      have HS := Lib.hid hseg
      have HF := Lib.hid hoff
      clear hcl hrow hO hy2 hseg hoff
      go_wp2_with (go_at_call 114; refine (A32.out _ _ _ _ hdz hdy (by omega)).mono ?_; rintro e w' ⟨rfl, rfl⟩)
      have hcl := HL.out; have hseg := HS.out; have hoff := HF.out
      refine ⟨⟨k + 1, (dg seg' k + dg ys k + c) / 4294967296, seg'.set k ((dg seg' k + dg ys k + c) % 4294967296), by omega, by go_num, by go_num, by omega, by simpa using hcl, hcd.set _ (Nat.mod_lt _ (by decide)),
        give_step seg' ys k c _ (by omega) hlt hval.out, ?_, HO.out.set (off + k) _⟩, by simp [intOf]; omega⟩
      rw [← set_mid _ (by omega), hoff]
      exact hrowH.out.set (lo.length + k) ((dg seg' k + dg ys k + c) % 4294967296) (by simp; omega)
    · have hky : k = ys.length := by omega
      have ho := hrow.cell (j := lo.length + ys.length) (by simp; omega)
      have hf := hrow.free (lo.length + ys.length)
      rw [dg_mid (by omega)] at ho
      rw [← hoff] at ho hf
      have hdz : dg seg' ys.length < 4294967296 := hcd.dg (by decide) ys.length
      have hv0 : val 4294967296 seg' + c * 4294967296 ^ ys.length = val 4294967296 seg + val 4294967296 ys := by
        have h1 := hval.out
        rw [hky, List.drop_length] at h1
        simpa [val] using h1
      have HT := Lib.hid (give_last seg' ys.length c _ (by omega) hv0)
      have hset := hrow.set (lo.length + ys.length) ((dg seg' ys.length + c) % 4294967296) (by simp; omega)
      rw [set_mid _ (by omega), ← hoff] at hset
      have hlt' : ¬ (k : Int) < ((ys.length : Nat) : Int) := by omega
      have hli2 : ((ys.length : Nat) : Int) < ((ys.length : Nat) : Int) + 1 := by omega
      have HS := Lib.hid hseg; have HL := Lib.hid hcl; have HR := Lib.hid hset; have HO := Lib.hid hO
      clear hv0 hky hval hrow hy2 hset hO hseg hcl hoff
      go_wp2
      go_end0
      refine ⟨⟨_, rfl⟩, (dg seg' ys.length + c) / 4294967296, seg'.set ys.length ((dg seg' ys.length + c) % 4294967296), by have := HL.out; simpa using this, hcd.set _ (Nat.mod_lt _ (by decide)), by rw [HS.out]; exact HT.out, HR.out, HO.out.set (off + ys.length) _⟩
structure Trial (R Y high next top q r : Nat) : Prop where
  eq : q * high + r = top
  ge : R < (q + 1) * Y
  lt : r < 4294967296
  le : q ≤ 4294967297
structure Tops (R Y high next top third p lowR lowY : Nat) : Prop where
  eR : R = lowR + p * (top * 4294967296 + third)
  eY : Y = lowY + p * (high * 4294967296 + next)
  lR : lowR < p
  lY : lowY < p
  third_lt : third < 4294967296
  next_lt : next < 4294967296
  norm : 2147483648 ≤ high
  high_lt : high < 4294967296
  small : R < 4294967296 * Y
  topl : top ≤ high * 4294967296 + 4294967295
theorem Tops.start {R Y high next top third p lowR lowY : Nat} (h : Tops R Y high next top third p lowR lowY) : Trial R Y high next top (top / high) (top % high) := by
  have hn := h.norm
  have hm := Nat.mod_lt top (show 0 < high by omega)
  have hd := Nat.div_add_mod top high
  refine ⟨by rw [Nat.mul_comm]; exact hd, ?_, by have := h.high_lt; omega, ?_⟩
  · -- (q + 1) high > top
    have h1 : top + 1 ≤ (top / high + 1) * high := by rw [Nat.add_mul, Nat.one_mul, Nat.mul_comm]; omega
    have h2 := Nat.mul_le_mul_left (p * 4294967296) h1
    have h3 := h.lR; have h4 := h.third_lt; have h5 := h.eR; have h6 := h.eY
    have h7 : p * 4294967296 * ((top / high + 1) * high) ≤ (top / high + 1) * Y := by
      rw [h6]
      have : (top / high + 1) * (lowY + p * (high * 4294967296 + next)) = (top / high + 1) * lowY + p * 4294967296 * ((top / high + 1) * high) + (top / high + 1) * (p * next) := by grind
      omega
    have h8 : R < p * 4294967296 * (top + 1) := by
      rw [h5]
      have h9 := Nat.mul_le_mul_left p (show third + 1 ≤ 4294967296 by omega)
      have e1 : p * (top * 4294967296 + third) = p * 4294967296 * top + p * third := by grind
      have e2 : p * 4294967296 * (top + 1) = p * 4294967296 * top + p * 4294967296 := by grind
      rw [Nat.mul_add, Nat.mul_one] at h9
      rw [e1, e2]
      omega
    omega
  · have h1 := h.topl
    refine Nat.le_of_lt_succ (Nat.div_lt_of_lt_mul ?_)
    omega
theorem Tops.down {R Y high next top third p lowR lowY q r : Nat} (h : Tops R Y high next top third p lowR lowY) (t : Trial R Y high next top q r) (hc : 4294967296 ≤ q ∨ r * 4294967296 + third < q * next) :
    1 ≤ q ∧ (q - 1) * high + (r + high) = top ∧ R < (q - 1 + 1) * Y ∧ q - 1 ≤ 4294967297 := by
  have hq : 1 ≤ q := by
    rcases hc with h1 | h1
    · omega
    · cases q with
      | zero => simp at h1
      | succ q => omega
  obtain ⟨k, rfl⟩ : ∃ k, q = k + 1 := ⟨q - 1, by omega⟩
  have e1 := t.eq
  refine ⟨hq, by rw [Nat.add_sub_cancel]; rw [Nat.add_mul] at e1; omega, ?_, by have := t.le; omega⟩
  rw [Nat.add_sub_cancel]
  rcases hc with h1 | h1
  · have h2 := h.small
    have := Nat.mul_le_mul_right Y h1
    omega
  · -- (k + 1) Y3 > R3
    have h2 : top * 4294967296 + third + 1 ≤ (k + 1) * (high * 4294967296 + next) := by
      rw [← e1]
      have : (k + 1) * (high * 4294967296 + next) = (k + 1) * high * 4294967296 + (k + 1) * next := by grind
      rw [Nat.add_mul]
      omega
    have h3 := Nat.mul_le_mul_left p h2
    have h5 := h.eR; have h6 := h.eY; have h7 := h.lR
    have h8 : (k + 1) * Y = (k + 1) * lowY + p * ((k + 1) * (high * 4294967296 + next)) := by rw [h6]; grind
    rw [Nat.mul_add, Nat.mul_one] at h3
    omega
def Guessed (R Y q : Nat) : Prop := q < 4294967296 ∧ R < (q + 1) * Y ∧ (q - 1) * Y ≤ R
theorem Tops.end {R Y high next top third p lowR lowY q r : Nat} (h : Tops R Y high next top third p lowR lowY) (hq : q < 4294967296) (eq : q * high + r = top) (ge : R < (q + 1) * Y) (hc : q * next ≤ r * 4294967296 + third) : Guessed R Y q := by
  refine ⟨hq, ge, ?_⟩
  -- q Y3 ≤ R3
  have h1 : q * (high * 4294967296 + next) ≤ top * 4294967296 + third := by
    rw [← eq]
    have : q * (high * 4294967296 + next) = q * high * 4294967296 + q * next := by grind
    rw [Nat.add_mul]
    omega
  have h2 := Nat.mul_le_mul_left p h1
  have h5 := h.eR; have h6 := h.eY; have h7 := h.lY; have hn := h.norm
  cases q with
  | zero => simp
  | succ k =>
    rw [Nat.add_sub_cancel]
    -- k Y < k p (Y3 + 1) ≤ p (k + 1) Y3
    have h8 : k * Y = k * lowY + p * (k * (high * 4294967296 + next)) := by rw [h6]; grind
    have h9 : k * lowY ≤ k * p := Nat.mul_le_mul_left k (by omega)
    have h10 : k * p ≤ p * (high * 4294967296 + next) := by
      rw [Nat.mul_comm]; exact Nat.mul_le_mul_left p (by omega)
    have h11 : p * ((k + 1) * (high * 4294967296 + next)) = p * (k * (high * 4294967296 + next)) + p * (high * 4294967296 + next) := by grind
    omega
theorem Tops.over {R Y high next top third p lowR lowY q r : Nat} (h : Tops R Y high next top third p lowR lowY) (t : Trial R Y high next top q r) (hq1 : 1 ≤ q) (hr : 4294967296 ≤ r + high) : q - 1 < 4294967296 ∧ (q - 1) * next ≤ (r + high) * 4294967296 + third := by
  have h1 : q - 1 < 4294967296 := by
    have e1 := t.eq; have h2 := h.topl; have hn := h.norm; have hl := t.le
    by_cases hq : q ≤ 4294967296
    · omega
    · have : q = 4294967297 := by omega
      subst this
      omega
  refine ⟨h1, ?_⟩
  have h2 : (q - 1) * next ≤ 4294967296 * 4294967295 := Nat.mul_le_mul (by omega) (by have := h.next_lt; omega)
  have h3 := Nat.mul_le_mul_right 4294967296 hr
  omega
theorem tops_of (rs ys : List Nat) (m : Nat) (hr : Dig 4294967296 rs) (hy : Dig 4294967296 ys) (lr : rs.length = m + 3) (ly : ys.length = m + 2) (hn : 2147483648 ≤ dg ys (m + 1)) (hs : val 4294967296 rs < 4294967296 * val 4294967296 ys) :
    Tops (val 4294967296 rs) (val 4294967296 ys) (dg ys (m + 1)) (dg ys m) (dg rs (m + 2) * 4294967296 + dg rs (m + 1)) (dg rs m) (4294967296 ^ m) (val 4294967296 (rs.take m)) (val 4294967296 (ys.take m)) := by
  have eR : val 4294967296 rs = val 4294967296 (rs.take m) + 4294967296 ^ m * ((dg rs (m + 2) * 4294967296 + dg rs (m + 1)) * 4294967296 + dg rs m) := by
    conv => lhs; rw [(List.take_append_drop m rs).symm]
    rw [val_append, show (rs.take m).length = m by simp; omega, val_drop _ (by omega : m < rs.length), val_drop _ (by omega : m + 1 < rs.length), val_drop _ (by omega : m + 1 + 1 < rs.length), List.drop_of_length_le (by omega)]
    simp only [val]
    rw [show m + 1 + 1 = m + 2 from rfl]
    grind
  have eY : val 4294967296 ys = val 4294967296 (ys.take m) + 4294967296 ^ m * (dg ys (m + 1) * 4294967296 + dg ys m) := by
    conv => lhs; rw [(List.take_append_drop m ys).symm]
    rw [val_append, show (ys.take m).length = m by simp; omega, val_drop _ (by omega : m < ys.length), val_drop _ (by omega : m + 1 < ys.length), List.drop_of_length_le (by omega)]
    simp only [val]
    grind
  have l1 := val_lt (hr.take m)
  have l2 := val_lt (hy.take m)
  rw [show (rs.take m).length = m by simp; omega] at l1
  rw [show (ys.take m).length = m by simp; omega] at l2
  refine ⟨eR, eY, l1, l2, hr.dg (by decide) m, hy.dg (by decide) m, hn, hy.dg (by decide) (m + 1), hs, ?_⟩
  have hb := hr.dg (by decide) (m + 1)
  -- top < B (high + 1)
  have h1 := Nat.pow_pos (n := m) (show 0 < 4294967296 by decide)
  have hN := hy.dg (by decide) m
  generalize (4294967296 : Nat) ^ m = p at *
  generalize dg rs (m + 2) = a at *
  generalize dg rs (m + 1) = b at *
  generalize dg rs m = t at *
  generalize dg ys (m + 1) = H at *
  generalize dg ys m = N at *
  rw [eR, eY] at hs
  have h2 : p * (a * 4294967296 + b) * 4294967296 < p * 4294967296 * (H * 4294967296 + 4294967296) := by
    have e1 : 4294967296 * (val 4294967296 (ys.take m) + p * (H * 4294967296 + N)) = 4294967296 * val 4294967296 (ys.take m) + p * 4294967296 * (H * 4294967296 + N) := by grind
    have e2 : p * ((a * 4294967296 + b) * 4294967296 + t) = p * (a * 4294967296 + b) * 4294967296 + p * t := by grind
    have h3 := Nat.mul_le_mul_left (p * 4294967296) (show N + 1 ≤ 4294967296 by omega)
    have e3 : p * 4294967296 * (H * 4294967296 + N) = p * 4294967296 * (H * 4294967296) + p * 4294967296 * N := Nat.mul_add _ _ _
    have e4 : p * 4294967296 * (H * 4294967296 + 4294967296) = p * 4294967296 * (H * 4294967296) + p * 4294967296 * 4294967296 := Nat.mul_add _ _ _
    rw [Nat.mul_add, Nat.mul_one] at h3
    omega
  have h4 : p * 4294967296 * (a * 4294967296 + b) < p * 4294967296 * (H * 4294967296 + 4294967296) := by
    rw [show p * 4294967296 * (a * 4294967296 + b) = p * (a * 4294967296 + b) * 4294967296 by grind]; exact h2
  have := Nat.lt_of_mul_lt_mul_left h4
  omega
set_option maxRecDepth 100000 in
set_option maxHeartbeats 2000000 in
theorem guess_any (g off cap K2 b2 o2 m : Nat) (rs ys : List Nat) (w : World) (hr : Dig 4294967296 rs) (hy : Dig 4294967296 ys) (lr : rs.length = m + 3) (ly : ys.length = m + 2) (hm : m ≤ 1000000) (hn : 2147483648 ≤ dg ys (m + 1)) (hs : val 4294967296 rs < 4294967296 * val 4294967296 ys)
    (hr2 : ∀ j, j < rs.length → w.cell? ⟨g, off + j, none⟩ = some (.int .u32 ((dg rs j : Nat) : Int))) (hy2 : ∀ j, j < ys.length → w.cell? ⟨b2, o2 + j, none⟩ = some (.int .u32 ((dg ys j : Nat) : Int))) :
    Calls Tryz.prog 110 #[.slice (some ⟨g, off, none⟩) (m + 3) cap, .slice (some ⟨b2, o2, none⟩) (m + 2) K2] w fun e w' => (∃ q : Nat, e = .returned (.int .u32 q) ∧ Guessed (val 4294967296 rs) (val 4294967296 ys) q) ∧ ∃ n, w' = w.drewN n := by
  have TT := Lib.hid (tops_of rs ys m hr hy lr ly hn hs)
  have y1 := hy2 (m + 1) (by omega)
  have y0 := hy2 m (by omega)
  have r2 := hr2 (m + 2) (by omega)
  have r1 := hr2 (m + 1) (by omega)
  have r0 := hr2 m (by omega)
  have ly1 : dg ys (m + 1) < 4294967296 := hy.dg (by decide) _
  have ly0 : dg ys m < 4294967296 := hy.dg (by decide) _
  have lr2 : dg rs (m + 2) < 4294967296 := hr.dg (by decide) _
  have lr1 : dg rs (m + 1) < 4294967296 := hr.dg (by decide) _
  have lr0 : dg rs m < 4294967296 := hr.dg (by decide) _
  have hor := Lib.hid (or_hi (dg rs (m + 2)) (dg rs (m + 1)) lr2 lr1)
  clear hr2 hy2 hr hy lr ly hs
  generalize val 4294967296 rs = R at *
  generalize val 4294967296 ys = Y at *
  generalize dg ys (m + 1) = H at *
  generalize dg ys m = N at *
  generalize dg rs (m + 2) = a at *
  generalize dg rs (m + 1) = b at *
  generalize dg rs m = T at *
  go_enter Tryz.func110, Tryz.ntmps110
  go_wp2_with fail
  go_quiet (fail)
  obtain ⟨n1, rfl⟩ : ∃ n1, n1 = nq := ⟨_, rfl⟩
  go_wp2_with fail
  go_quiet (fail)
  obtain ⟨n2, rfl⟩ : ∃ n2, n2 = nq := ⟨_, rfl⟩
  go_wp2_with fail
  rw [hor.out]
  obtain ⟨t, ht⟩ : ∃ t, a * 4294967296 + b = t := ⟨_, rfl⟩
  rw [ht] at TT ⊢
  have htl : t < 18446744073709551616 := by omega
  have hH0 : (0 : Int) < (H : Int) := by omega
  have hHne : ((H : Int) == 0) = false := by simp; omega
  clear ht hor
  have Htl := Lib.hid htl; clear htl
  go_quiet (fail)
  have eq1 : IntKind.u64.wrap ((t : Int) / (H : Int)) = ((t / H : Nat) : Int) := by
    rw [← Int.natCast_ediv]
    have := Nat.div_le_self t H
    have := Htl.out
    generalize t / H = q at *
    exact wraps_u64 _ (by omega) (by omega)
  have eq2 : ((t : Int) % (H : Int)) = ((t % H : Nat) : Int) := by rw [← Int.natCast_emod]
  rw [eq1, eq2]
  clear eq1 eq2
  obtain ⟨wq, hwq⟩ : ∃ wq, ((w.drewN n1).drewN n2).drewN nq = wq := ⟨_, rfl⟩
  rw [hwq]
  have HW : ∃ n, wq = w.drewN n := ⟨n1 + n2 + nq, by rw [← hwq]; simp [World.drewN, Nat.add_assoc]⟩
  have r0 : wq.cell? ⟨g, off + m, none⟩ = some (.int .u32 (T : Int)) := by rw [← hwq]; exact r0
  have HW := Lib.hid HW
  clear hwq
  have hnext : (N : Int) < 4294967296 := by omega
  have hT : (T : Int) < 4294967296 := by omega
  have hHl : (H : Int) < 4294967296 := by omega
  go_wp2_with fail
  go_loop [9, 10] (fun sq sr => ∃ q r : Nat, sq = .int .u64 q ∧ sr = .int .u64 r ∧ r < 4294967296 ∧ q ≤ 4294967297 ∧ Trial R Y H N t q r) (fun sq _ => (intOf sq).toNat)
  case atStart => exact ⟨t / H, t % H, rfl, rfl, TT.out.start.lt, TT.out.start.le, TT.out.start⟩
  case round =>
    obtain ⟨q, r, rfl, rfl, hrl, hql, hT0⟩ := hrel
    have HT := Lib.hid hT0
    clear hT0
    by_cases hA : 4294967296 ≤ q
    · have hA' : (0 : Int) < (q : Int) / 4294967296 := by omega
      obtain ⟨d1, d2, d3, d4⟩ := TT.out.down HT.out (.inl hA)
      have D2 := Lib.hid d2; have D3 := Lib.hid d3
      clear d2 d3
      by_cases hbr : 4294967296 ≤ r + H
      · have hbr' : (0 : Int) < ((r : Int) + (H : Int)) / 4294967296 := by omega
        obtain ⟨o1, o2'⟩ := TT.out.over HT.out d1 hbr
        have G := Lib.hid (TT.out.end o1 D2.out D3.out o2')
        clear o2' hbr
        go_wp2
        go_ret
        exact ⟨⟨q - 1, ret_one (by show Value.int .u32 _ = Value.int .u32 _; congr 1; omega), G.out⟩, HW.out⟩
      · have hbr' : ¬ (0 : Int) < ((r : Int) + (H : Int)) / 4294967296 := by omega
        go_wp2
        go_round
        case rel => exact ⟨q - 1, r + H, by show Value.int .u64 _ = Value.int .u64 _; congr 1; omega, by go_num, by omega, by omega, D2.out, D3.out, by omega, d4⟩
        case measure => simp [intOf]; omega
    · have hA' : ¬ (0 : Int) < (q : Int) / 4294967296 := by omega
      have hp : q * N ≤ 4294967295 * 4294967295 := Nat.mul_le_mul (by omega) (by omega)
      have hm0 : (0 : Int) ≤ (q : Int) * (N : Int) := by rw [← Int.natCast_mul]; omega
      have hm1 : (q : Int) * (N : Int) ≤ 18446744065119617025 := by rw [← Int.natCast_mul]; omega
      have hor2 := or_hi r T hrl (by omega)
      obtain ⟨Z, hZ⟩ : ∃ Z, r * 4294967296 + T = Z := ⟨_, rfl⟩
      have HZ := Lib.hid hZ
      rw [hZ] at hor2
      obtain ⟨M, hM⟩ : ∃ M, q * N = M := ⟨_, rfl⟩
      have hM' : (q : Int) * (N : Int) = (M : Int) := by rw [← Int.natCast_mul, hM]
      have HM := Lib.hid hM
      clear hM hZ
      by_cases hB : Z < M
      · have hB' : (Z : Int) < (q : Int) * (N : Int) := by omega
        obtain ⟨d1, d2, d3, d4⟩ := TT.out.down HT.out (.inr (by rw [HZ.out, HM.out]; exact hB))
        clear hM'
        have D2 := Lib.hid d2; have D3 := Lib.hid d3
        clear d2 d3 hB hp
        by_cases hbr : 4294967296 ≤ r + H
        · have hbr' : (0 : Int) < ((r : Int) + (H : Int)) / 4294967296 := by omega
          obtain ⟨o1, o2'⟩ := TT.out.over HT.out d1 hbr
          have G := Lib.hid (TT.out.end o1 D2.out D3.out o2')
          clear o2' hbr
          go_wp2
          go_ret
          exact ⟨⟨q - 1, ret_one (by show Value.int .u32 _ = Value.int .u32 _; congr 1; omega), G.out⟩, HW.out⟩
        · have hbr' : ¬ (0 : Int) < ((r : Int) + (H : Int)) / 4294967296 := by omega
          go_wp2
          go_round
          case rel => exact ⟨q - 1, r + H, by show Value.int .u64 _ = Value.int .u64 _; congr 1; omega, by go_num, by omega, by omega, D2.out, D3.out, by omega, d4⟩
          case measure => simp [intOf]; omega
      · have hB' : ¬ (Z : Int) < (q : Int) * (N : Int) := by omega
        have G := Lib.hid (TT.out.end (by omega) HT.out.eq HT.out.ge (by rw [HZ.out, HM.out]; omega))
        clear hB hp hM'
        go_wp2
        go_ret
        exact ⟨⟨q, ret_one (by show Value.int .u32 _ = Value.int .u32 _; congr 1), G.out⟩, HW.out⟩
theorem quot_of (R Y q : Nat) (h1 : R < (q + 1) * Y) (h2 : q * Y ≤ R) : R / Y = q := by
  have hY : 0 < Y := by
    cases Y with
    | zero => simp at h1
    | succ y => omega
  refine Nat.div_eq_of_lt_le h2 ?_
  rw [Nat.mul_comm] at h1 ⊢
  simpa [Nat.mul_comm] using h1
def StepPost (g : Nat) (lo seg hi ys : List Nat) (w : World) (e : Ending) (w' : World) : Prop := e = .returned (.int .u32 (val 4294967296 seg / val 4294967296 ys : Nat)) ∧ ∃ seg' : List Nat, seg'.length = seg.length ∧ Dig 4294967296 seg' ∧
  val 4294967296 seg' + val 4294967296 seg / val 4294967296 ys * val 4294967296 ys = val 4294967296 seg ∧ Row .u32 88 w' g (lo ++ (seg' ++ hi)) ∧ Only g w w'
set_option maxRecDepth 100000 in
set_option maxHeartbeats 1000000 in
theorem step_any (g off cap K2 b2 o2 m : Nat) (lo seg hi ys : List Nat) (w : World) (hoff : off = lo.length) (hrow : Row .u32 88 w g (lo ++ (seg ++ hi))) (lr : seg.length = m + 3) (ly : ys.length = m + 2) (hds : Dig 4294967296 seg) (hys : Dig 4294967296 ys) (hm : m ≤ 100000)
    (hn : 2147483648 ≤ dg ys (m + 1)) (hs : val 4294967296 seg < 4294967296 * val 4294967296 ys)
    (hb2 : b2 < w.heap.size) (hne : b2 ≠ g) (hy2 : ∀ j, j < ys.length → w.cell? ⟨b2, o2 + j, none⟩ = some (.int .u32 ((dg ys j : Nat) : Int))) :
    Calls Tryz.prog 101 #[.slice (some ⟨g, off, none⟩) (m + 3) cap, .slice (some ⟨b2, o2, none⟩) (m + 2) K2] w (StepPost g lo seg hi ys w) := by
  have hr2 : ∀ j, j < seg.length → w.cell? ⟨g, off + j, none⟩ = some (.int .u32 ((dg seg j : Nat) : Int)) := fun j hj => by
    have := hrow.cell (j := lo.length + j) (by simp; omega)
    rw [dg_mid hj] at this
    rw [hoff]; exact this
  have G := Lib.hid (guess_any g off cap K2 b2 o2 m seg ys w hds hys lr ly (by omega) hn hs hr2 hy2)
  have T0 : ∀ q n : Nat, q < 4294967296 → Calls Tryz.prog 111 #[.slice (some ⟨g, off, none⟩) (m + 3) cap, .slice (some ⟨b2, o2, none⟩) (m + 2) K2, .int .u32 q] (w.drewN n) (TakePost g q lo seg hi ys (w.drewN n)) := fun q n hq => by
    have h := take_any g off cap K2 q b2 o2 lo seg hi ys (w.drewN n) hoff (hrow.keep rfl) (by omega) hds hys hq (by omega) hb2 hne hy2
    rw [ly] at h
    exact h
  have T := Lib.hid T0; clear T0
  have V0 : ∀ (seg1 : List Nat) (W : World), Row .u32 88 W g (lo ++ (seg1 ++ hi)) → seg1.length = seg.length → Dig 4294967296 seg1 → Only g w W →
      Calls Tryz.prog 112 #[.slice (some ⟨g, off, none⟩) (m + 3) cap, .slice (some ⟨b2, o2, none⟩) (m + 2) K2] W (GivePost g lo seg1 hi ys W) := fun seg1 W h1 h2 h3 hO => by
    have h := give_any g off cap K2 b2 o2 lo seg1 hi ys W hoff h1 (by omega) h3 hys (by omega) (Nat.lt_of_lt_of_le hb2 hO.size) hne (fun j hj => (hO.cell (a := ⟨b2, o2 + j, none⟩) hb2 hne).trans (hy2 j hj))
    rw [ly] at h
    exact h
  have V := Lib.hid V0; clear V0
  have LR := Lib.hid lr; have HD := Lib.hid hds
  have hYp : 0 < val 4294967296 ys := by
    have h1 := val_drop 4294967296 (show m + 1 < ys.length by omega)
    have h2 : val 4294967296 ys = val 4294967296 (ys.take (m + 1)) + 4294967296 ^ (m + 1) * val 4294967296 (ys.drop (m + 1)) := by
      conv => lhs; rw [(List.take_append_drop (m + 1) ys).symm]
      rw [val_append, show (ys.take (m + 1)).length = m + 1 by simp; omega]
    have h3 := Nat.pow_pos (n := m + 1) (show 0 < 4294967296 by decide)
    have h4 := Nat.mul_pos h3 (show 0 < val 4294967296 (ys.drop (m + 1)) by omega)
    omega
  have hYl : val 4294967296 ys < 4294967296 ^ (m + 2) := by have := val_lt hys; rwa [ly] at this
  clear hr2 hy2 hds hs hrow hn hoff lr ly
  go_enter Tryz.func101, Tryz.ntmps101
  go_wp2_with fail
  refine G.out.mono ?_
  rintro e w1 ⟨⟨q, rfl, hq, hg1, hg2⟩, n, rfl⟩
  have G1 := Lib.hid hg1; have G2 := Lib.hid hg2
  clear hg1 hg2 G; go_wp2_with fail
  refine (T.out q n hq).mono ?_
  rintro e w2 ⟨b, seg1, rfl, hl1, hd1, hv1, hr1, hO1⟩
  have hO := ((Only.refl g w).drewN n).trans hO1
  have hd1l := val_lt hd1
  rw [hl1, LR.out] at hd1l
  have hv1' := hv1
  rw [LR.out] at hv1'
  have HV := Lib.hid hv1'
  clear hv1 hv1' T
  cases b with
  | false =>
    have hq2 : q * val 4294967296 ys ≤ val 4294967296 seg := by have := HV.out; simp at this; omega
    have HQ := Lib.hid (quot_of _ _ _ G1.out hq2)
    clear hq2
    go_wp2
    go_ret
    refine ⟨ret_one (by rw [HQ.out]; rfl), seg1, hl1, hd1, ?_, hr1, hO⟩
    rw [HQ.out]
    have := HV.out
    simpa using this
  | true =>
    have hv := HV.out
    simp only [if_true] at hv
    have hq0 : q ≠ 0 := by
      rintro rfl
      simp at hv
      omega
    obtain ⟨k, rfl⟩ : ∃ k, q = k + 1 := ⟨q - 1, by omega⟩
    have hk1 := G2.out
    rw [Nat.add_sub_cancel] at hk1
    have hgt : val 4294967296 seg < (k + 1) * val 4294967296 ys := by omega
    have HQ := Lib.hid (quot_of _ _ _ hgt hk1)
    have C := Lib.hid (V.out seg1 w2 hr1 hl1 hd1 hO)
    have HV2 := Lib.hid hv
    have HK := Lib.hid hk1; have HG := Lib.hid hgt
    clear hv hk1 hgt
    go_wp2_with (go_at_call 112; refine C.out.mono ?_; rintro e w3 ⟨⟨v3, rfl⟩, c, seg2, hl2, hd2, hv2, hr2, hO2⟩)
    go_ret
    refine ⟨ret_one ?_, seg2, hl2.trans hl1, hd2, ?_, hr2, hO.trans hO2⟩
    · show Value.int .u32 _ = Value.int .u32 _
      rw [HQ.out]
    · rw [HQ.out]
      have h1 := HV2.out
      have h2 := val_lt hd2
      rw [hl2, hl1, LR.out] at h2
      rw [hl1, LR.out] at hv2
      rw [Nat.add_mul, Nat.one_mul] at h1
      have hc : c = 1 := by
        have h3 := HK.out
        have h4 := HG.out
        rw [Nat.add_mul, Nat.one_mul] at h4
        have e3 : (4294967296 : Nat) ^ (m + 3) = 4294967296 ^ (m + 2) * 4294967296 := Nat.pow_succ ..
        rw [e3] at h1 h2 hv2 hd1l
        generalize (4294967296 : Nat) ^ (m + 2) = p at *
        -- seg2 + c P = seg - k Y + P
        by_cases hc0 : c = 0
        · subst hc0; simp at hv2; omega
        · by_cases hc2 : 2 ≤ c
          · have := Nat.mul_le_mul_right (p * 4294967296) hc2
            omega
          · omega
      subst hc
      omega
section
attribute [local go_sem] Oper.semAt_some
theorem IsNat.other {w : World} {v : Value} {n : Nat} (h : IsNat w v n) {a : Addr} {u : Value} (x : Value) (hc : w.cell? a = some u) (hv : ∀ n, u ≠ .int .u32 n) : IsNat (w.setCell a x) v n := by
  obtain ⟨ds, ⟨p, c, e, h⟩, k⟩ := h
  exact ⟨ds, ⟨p, c, e, h.other x hc hv⟩, k⟩
theorem At.put {q : IntKind} {w : World} {D : Nat} (hK : w.heap[D]? = some (.deferred (some []))) {p : Option Addr} {cap : Nat} {ds : List Nat} : At q w p cap ds → At q (w.putObj D (.deferred none)) p cap ds
  | .inl h => .inl h
  | .inr ⟨b, off, e, hc, hs, h⟩ => .inr ⟨b, off, e, hc, by simpa using hs, fun j hj => put_cell hK (h j hj)⟩
theorem IsNat.put {w : World} {D : Nat} (hK : w.heap[D]? = some (.deferred (some []))) {v : Value} {n : Nat} (h : IsNat w v n) : IsNat (w.putObj D (.deferred none)) v n := by
  obtain ⟨ds, ⟨p, c, e, h⟩, k⟩ := h
  exact ⟨ds, ⟨p, c, e, h.put hK⟩, k⟩
theorem digit_step (V D by' d r Q : Nat) (hV : V = d + 4294967296 * D) (hD : D = Q * by' + r) : V = ((r * 4294967296 + d) / by' + 4294967296 * Q) * by' + (r * 4294967296 + d) % by' := by
  have h := Nat.div_add_mod (r * 4294967296 + d) by'
  generalize (r * 4294967296 + d) / by' = q at *
  generalize (r * 4294967296 + d) % by' = m at *
  grind
set_option maxRecDepth 100000 in
set_option maxHeartbeats 2000000 in
theorem digit_any (p : Option Addr) (K d : Nat) (ds : List Nat) (w : World) (hat : At .u32 w p K ds) (hds : Dig 4294967296 ds) (hlen : ds.length ≤ 512) (hd0 : 0 < d) (hd : d < 4294967296) :
    Calls Tryz.prog 79 #[.slice p ds.length K, .int .u32 d] w fun e w' => (∃ v1 v2, e = .returned (.tuple #[v1, v2]) ∧ IsNat w' v1 (val 4294967296 ds / d) ∧ IsNat w' v2 (val 4294967296 ds % d)) ∧ Below w.heap.size w w' := by
  refine calls_marks Tryz.func79 rfl ?_
  simp only [Tryz.ntmps79, List.size_toArray, List.length_cons, List.length_nil, Nat.reduceAdd, Nat.reduceSub, Array.replicate_succ, Array.replicate_zero, List.push_toArray, List.append_toArray, List.nil_append, List.cons_append]
  have hpl := hat.block
  go_upto_region 2 with (at_make; refine make_nat rfl _ _ rfl _ _ ds.length rfl rfl rfl rfl (by omega) _ _ (Below.refl _ _) (Nat.le_refl _) ?_; intro w3 hr3 hB3 hB3'; have c1 := (hB3.cell (p := ⟨w.heap.size + 1, 0, none⟩) (by simp)).trans (show _ = some (.slice none 0 0) by simp [go_sem]); have f1 := (hB3.frozen (p := ⟨w.heap.size + 1, 0, none⟩) (by simp)).trans (show _ = false by simp [go_sem]))
  rw [show ((w.alloc (.cells #[.int .u32 d] 88)).alloc (.cells #[.slice none 0 0] 35)).heap.size = w.heap.size + 1 + 1 by simp] at hr3 hB3 hB3'
  obtain ⟨w4, hw4⟩ : ∃ w4, w3.setCell ⟨w.heap.size + 1, 0, none⟩ (.slice (some ⟨w.heap.size + 1 + 1, 0, none⟩) ds.length ds.length) = w4 := ⟨_, rfl⟩
  have hB4 : Below w.heap.size w w4 := by
    rw [← hw4]
    exact ((((Below.refl _ w).alloc (Nat.le_refl _) _).alloc (by simp) _).trans (hB3.mono (by omega))).setCell (p := ⟨w.heap.size + 1, 0, none⟩) (by simp) _
  have k0 : w4.cell? ⟨w.heap.size, 0, none⟩ = some (.int .u32 d) := by
    rw [← hw4, World.cell?_setCell_other _ _ _ _ (by simp)]
    exact (hB3.cell (p := ⟨w.heap.size, 0, none⟩) (by show w.heap.size < _; omega)).trans (by simp [go_sem])
  have k1 : w4.cell? ⟨w.heap.size + 1, 0, none⟩ = some (.slice (some ⟨w.heap.size + 1 + 1, 0, none⟩) ds.length ds.length) := by
    rw [← hw4]; exact World.cell?_setCell_same' _ _ _ (by rw [c1]; rfl)
  have g1 : w4.frozen? ⟨w.heap.size + 1, 0, none⟩ = false := by rw [← hw4, World.frozen?_setCell]; exact f1
  have hr4 : Row .u32 88 w4 (w.heap.size + 1 + 1) (List.replicate ds.length 0) := by
    rw [← hw4]; exact hr3.other (by omega) 0 _
  rw [hw4]
  clear hw4 c1 f1 hr3 hB3 hB3'
  go_wp2_with (go_at_call 63; refine (down_any _ _ _ _).mono ?_; rintro e w' ⟨rfl, rfl⟩)
  obtain ⟨h, hh⟩ : ∃ h, w.heap.size = h := ⟨_, rfl⟩
  obtain ⟨R, hR⟩ : ∃ R, w4.heap.size = R := ⟨_, rfl⟩
  have hGR : h + 1 + 1 < R := by have := hr4.lt; omega
  obtain ⟨w1, hw1⟩ : ∃ w1, ((w4.alloc (.cells #[.int .u32 0] 88)).alloc (.cells #[.slice p ds.length K] 35)) = w1 := ⟨_, rfl⟩
  have hB14 : Below w4.heap.size w4 w1 := by rw [← hw1]; exact ((Below.refl _ w4).alloc (Nat.le_refl _) _).alloc (by simp) _
  have hs : w1.heap.size = w4.heap.size + 2 := by rw [← hw1]; simp
  have hra : Row .u32 88 w1 w4.heap.size [0] := by
    rw [← hw1]
    unfold Row
    rw [Below.heap_alloc _ _ _ (by simp)]
    exact World.alloc_heap_new _ _
  have c3 : w1.cell? ⟨w4.heap.size + 1, 0, none⟩ = some (.slice p ds.length K) := by rw [← hw1]; simp [go_sem]
  rw [hw1]
  clear hw1
  have hB := hB4.trans (hB14.mono hB4.size)
  have hat := hat.below hB (Nat.le_refl _)
  rw [hh] at hr4 k0 k1 g1 hpl hB
  rw [hR] at hB14 hs hra c3
  rw [hh, hR]
  have k0 := (hB14.cell (p := ⟨h, 0, none⟩) (by show h < R; omega)).trans k0
  have k1 := (hB14.cell (p := ⟨h + 1, 0, none⟩) (by show h + 1 < R; omega)).trans k1
  have g1 := (hB14.frozen (p := ⟨h + 1, 0, none⟩) (by show h + 1 < R; omega)).trans g1
  have hr4 := hr4.below hB14 hGR
  have hne' : ∀ a, p = some a → ds ≠ [] → ¬ (a.block = h + 1 + 1 ∨ a.block = R) := fun a ha hne => by have := hpl a ha hne; omega
  clear hB14 hB4 hpl
  refine rangePlain (gf := 89) (lb := #[.pointer (some ⟨R + 1, 0, none⟩)]) rfl (enters_of Tryz.func89 (by kernel_rfl) rfl) ds.length _ (fun _ => rfl)
    (fun k W => Turns (fun b => b = h + 1 + 1 ∨ b = R) w1 W ∧ ∃ r cs, r < d ∧ cs.length = ds.length ∧ Dig 4294967296 cs ∧ Hid (val 4294967296 (ds.drop (ds.length - k)) = val 4294967296 (cs.drop (ds.length - k)) * d + r) ∧ Row .u32 88 W R [r] ∧ Row .u32 88 W (h + 1 + 1) cs)
    (fun _ _ _ => False)
    (fun s W W' row hs' hg hr => by
      obtain ⟨h1, r, cs, h2, h3, h4, h5, h6, h7⟩ := hs'
      exact ⟨h1.grown hg (fun r e => (hr r e).1), r, cs, h2, h3, h4, h5, h6.grown hg (fun r e => (hr r e).2), h7.grown hg (fun r e => (hr r e).2)⟩)
    (fun _ _ _ _ _ hs _ _ => hs)
    ⟨Turns.refl _ _, 0, List.replicate ds.length 0, hd0, by simp, fun x hx => by simp at hx; omega, by show _ = _; rw [Nat.sub_zero, List.drop_length, List.drop_of_length_le (by simp)]; simp [val], hra, hr4⟩
    (down_seq 2 (R + 1) p K ds (by omega) _ fun k W hi => ⟨(hi.1.cell (a := ⟨R + 1, 0, none⟩) (by show R + 1 < _; omega) (by show ¬ (R + 1 = h + 1 + 1 ∨ R + 1 = R); omega)).trans c3, hat.turns hi.1 hne'⟩)
    ?round ?done ?stop
  case round =>
    rintro l k W Wb hk ⟨hT, r, cs, hrl, hcl, hcd, hv, hra', hrg⟩
    have s0 := (hT.cell (a := ⟨h, 0, none⟩) (by show h < _; omega) (by show ¬ (h = h + 1 + 1 ∨ h = R); omega)).trans k0
    have s1 := (hT.cell (a := ⟨h + 1, 0, none⟩) (by show h + 1 < _; omega) (by show ¬ (h + 1 = h + 1 + 1 ∨ h + 1 = R); omega)).trans k1
    have s2 := hra'.cell (j := 0) (by simp)
    have f2 := hra'.free 0
    obtain ⟨i, hi, hi'⟩ : ∃ i, ds.length - 1 - k = i ∧ i < ds.length := ⟨_, rfl, by omega⟩
    have hk1 : ds.length - k = i + 1 := by omega
    have hk2 : ds.length - (k + 1) = i := by omega
    rw [hi]
    rw [hk1] at hv
    have co' := hrg.cell (j := i) (by omega)
    have fo' := hrg.free i
    have hdi := hds.dg (by decide) i
    have hii : (i : Int) < ((ds.length : Nat) : Int) := by omega
    simp only [dg, List.getElem?_cons_zero, Option.getD_some] at s2
    have HD := Lib.hid (fun W => div32 r (dg ds i) d W hrl hdi hd)
    have Hk2 := Lib.hid hk2; have Hcl := Lib.hid hcl
    have Hra := Lib.hid hra'; have Hrg := Lib.hid hrg; have HT := Lib.hid hT; have Hv := Lib.hid hv
    have hmix : (Tryz.prog).follows .mixedOrders = true := by kernel_rfl
    clear hi hk1 hk2 hcl hra' hrg hT hv k0 k1 g1 hr4 hra c3 hne' hat
    gi_wp2
    refine ⟨trivial, ?_⟩
    gi_wp2
    refine round_held (fun W => W.cell? ⟨h, 0, none⟩ = some (.int .u32 d) ∧ W.cell? ⟨h + 1, 0, none⟩ = some (.slice (some ⟨h + 1 + 1, 0, none⟩) ds.length ds.length)) hmix (by kernel_rfl) (fun _ _ h => h) ⟨s0, s1⟩ (fun hS => ?_)
    refine wpAnyH_take (i := 0) (v := .slice (some ⟨h + 1 + 1, 0, none⟩) ds.length ds.length) ((List.getElem?_toArray ..).trans rfl) (by kernel_rfl) (by kernel_rfl) (by kernel_rfl) (fun _ _ _ h => h) (Or.inl ⟨rfl, fun W hW => ?_⟩) hS ?_
    · obtain ⟨hW0, hW1⟩ := hW
      go_simp
    try simp only [Act.put, List.setIfInBounds_toArray, List.set_cons_zero, List.set_cons_succ]
    refine wpAnyH_take (i := 1) (v := .int .i64 i) ((List.getElem?_toArray ..).trans rfl) (by kernel_rfl) (by kernel_rfl) (by kernel_rfl) (fun _ _ _ h => h) (Or.inl ⟨rfl, fun W hW => ?_⟩) hS ?_
    · go_simp
    try simp only [Act.put, List.setIfInBounds_toArray, List.set_cons_zero, List.set_cons_succ]
    refine wpAnyH_take (i := 3) (v := .int .u32 (dg ds i : Nat)) ((List.getElem?_toArray ..).trans rfl) (by kernel_rfl) (by kernel_rfl) (by kernel_rfl) (fun _ _ _ h => h) (Or.inl ⟨rfl, fun W hW => ?_⟩) hS ?_
    · go_simp
    try simp only [Act.put, List.setIfInBounds_toArray, List.set_cons_zero, List.set_cons_succ]
    refine wpAnyH_take (i := 4) (v := .int .u32 d) ((List.getElem?_toArray ..).trans rfl) (by kernel_rfl) (by kernel_rfl) (by kernel_rfl) (fun _ _ _ h => h) (Or.inl ⟨rfl, fun W hW => ?_⟩) hS ?_
    · obtain ⟨hW0, hW1⟩ := hW
      go_simp
    try simp only [Act.put, List.setIfInBounds_toArray, List.set_cons_zero, List.set_cons_succ]
    refine wpAnyH_ready (rs := [2]) (by kernel_rfl) (by simp) (AllReadyH.cons ((List.getElem?_toArray ..).trans rfl) (fun K hK => ?_) AllReadyH.nil)
    go_simp
    refine hK.out _ _ hS (fun _ => ?_)
    clear hK K
    try simp only [Act.put, List.setIfInBounds_toArray, List.set_cons_zero, List.set_cons_succ]
    refine wpAnyH_ready (rs := [5]) (by kernel_rfl) (by simp) (AllReadyH.cons ((List.getElem?_toArray ..).trans rfl) (fun K hK => ?_) AllReadyH.nil)
    go_simp
    refine (HD.out _).mono ?_
    rintro e w' ⟨rfl, n, rfl⟩
    go_wp2_with fail
    refine hK.out _ _ hS (fun hS2 => ?_)
    clear hK K
    try simp only [Act.put, List.setIfInBounds_toArray, List.set_cons_zero, List.set_cons_succ]
    refine wpAnyH_take (i := 6) (v := .tuple #[.int .u32 (divQ r (dg ds i) d), .int .u32 (divR r (dg ds i) d)]) ((List.getElem?_toArray ..).trans rfl) (by kernel_rfl) (by kernel_rfl) (by kernel_rfl) (fun _ _ _ h => h) (Or.inl ⟨rfl, fun W hW => ?_⟩) hS2 ?_
    · go_simp
    try simp only [Act.put, List.setIfInBounds_toArray, List.set_cons_zero, List.set_cons_succ]
    refine wpAnyH_take (i := 7) (v := .int .u32 (divQ r (dg ds i) d)) ((List.getElem?_toArray ..).trans rfl) (by kernel_rfl) (by kernel_rfl) (by kernel_rfl) (fun _ _ _ h => h) (Or.inl ⟨rfl, fun W hW => ?_⟩) hS2 ?_
    · go_simp
    try simp only [Act.put, List.setIfInBounds_toArray, List.set_cons_zero, List.set_cons_succ]
    refine wpAnyH_take (i := 8) (v := .int .u32 (divR r (dg ds i) d)) ((List.getElem?_toArray ..).trans rfl) (by kernel_rfl) (by kernel_rfl) (by kernel_rfl) (fun _ _ _ h => h) (Or.inl ⟨rfl, fun W hW => ?_⟩) hS2 ?_
    · go_simp
    try simp only [Act.put, List.setIfInBounds_toArray, List.set_cons_zero, List.set_cons_succ]
    refine wpAnyH_take (i := 9) (v := .pointer (some ⟨h + 1 + 1, i, none⟩)) ((List.getElem?_toArray ..).trans rfl) (by kernel_rfl) (by kernel_rfl) (by kernel_rfl) (fun _ _ _ h => h) (Or.inl ⟨rfl, fun W hW => ?_⟩) hS2 ?_
    · go_simp
    try simp only [Act.put, List.setIfInBounds_toArray, List.set_cons_zero, List.set_cons_succ]
    obtain ⟨W1, hW1⟩ : ∃ W1, Wb.drewN (1 + n) = W1 := ⟨_, rfl⟩
    have u2 : W1.cell? ⟨R, 0, none⟩ = some (.int .u32 r) := by rw [← hW1]; exact s2
    have v2 : W1.frozen? ⟨R, 0, none⟩ = false := by rw [← hW1]; exact f2
    have co1 : W1.cell? ⟨h + 1 + 1, i, none⟩ = some (.int .u32 (dg cs i : Nat)) := by rw [← hW1]; exact co'
    have fo1 : W1.frozen? ⟨h + 1 + 1, i, none⟩ = false := by rw [← hW1]; exact fo'
    rw [hW1] at hS2 ⊢
    have HW1 := Lib.hid hW1
    clear hW1 s0 s1 s2 f2 co' fo'
    refine wpAnyH_ready (rs := [10]) (by kernel_rfl) (by simp) (AllReadyH.cons ((List.getElem?_toArray ..).trans rfl) (fun K hK => ?_) AllReadyH.nil)
    go_simp
    have h0n : h ≠ h + 1 + 1 := by omega
    have h1n : h + 1 ≠ h + 1 + 1 := by omega
    have hRn : R ≠ h + 1 + 1 := by omega
    have h0R : h ≠ R := by omega
    have h1R : h + 1 ≠ R := by omega
    refine hK.out _ _ ⟨(World.cell?_setCell_other _ _ _ _ (by intro e; exact h0n (congrArg Addr.block e).symm)).trans hS2.1, (World.cell?_setCell_other _ _ _ _ (by intro e; exact h1n (congrArg Addr.block e).symm)).trans hS2.2⟩ (fun hS3 => ?_)
    have u3 := (World.cell?_setCell_other W1 ⟨h + 1 + 1, i, none⟩ ⟨R, 0, none⟩ (.int .u32 (divQ r (dg ds i) d)) (by intro e; exact hRn (congrArg Addr.block e).symm)).trans u2
    have v3 : (W1.setCell ⟨h + 1 + 1, i, none⟩ (.int .u32 (divQ r (dg ds i) d))).frozen? ⟨R, 0, none⟩ = false := by rw [World.frozen?_setCell]; exact v2
    clear hK K
    try simp only [Act.put, List.setIfInBounds_toArray, List.set_cons_zero, List.set_cons_succ]
    refine wpAnyH_ready (rs := [11]) (by kernel_rfl) (by simp) (AllReadyH.cons ((List.getElem?_toArray ..).trans rfl) (fun K hK => ?_) AllReadyH.nil)
    go_simp
    refine hK.out _ _ ⟨(World.cell?_setCell_other _ _ _ _ (by intro e; exact h0R (congrArg Addr.block e).symm)).trans hS3.1, (World.cell?_setCell_other _ _ _ _ (by intro e; exact h1R (congrArg Addr.block e).symm)).trans hS3.2⟩ (fun hS4 => ?_)
    clear hK K
    try simp only [Act.put, List.setIfInBounds_toArray, List.set_cons_zero, List.set_cons_succ]
    refine wpAnyH_done (by kernel_rfl) ?_ _
    have hcl := Hcl.out
    have hq : divQ r (dg ds i) d < 4294967296 := by
      unfold divQ
      refine (Nat.div_lt_iff_lt_mul hd0).2 ?_
      omega
    have hr' : divR r (dg ds i) d < d := Nat.mod_lt _ hd0
    have HT2 := ((HT.out.drewN (1 + n)).set (p := ⟨h + 1 + 1, i, none⟩) (Or.inl rfl) (.int .u32 (divQ r (dg ds i) d))).set (p := ⟨R, 0, none⟩) (Or.inr rfl) (.int .u32 (divR r (dg ds i) d))
    have HRg : Row .u32 88 ((W1.setCell ⟨h + 1 + 1, i, none⟩ (.int .u32 (divQ r (dg ds i) d))).setCell ⟨R, 0, none⟩ (.int .u32 (divR r (dg ds i) d))) (h + 1 + 1) (cs.set i (divQ r (dg ds i) d)) := by
      rw [← HW1.out]
      exact ((Hrg.out.keep (w' := Wb.drewN (1 + n)) rfl).set i (divQ r (dg ds i) d) (by omega)).other (Ne.symm hRn) 0 _
    have HRa : Row .u32 88 ((W1.setCell ⟨h + 1 + 1, i, none⟩ (.int .u32 (divQ r (dg ds i) d))).setCell ⟨R, 0, none⟩ (.int .u32 (divR r (dg ds i) d))) R [divR r (dg ds i) d] := by
      rw [← HW1.out]
      have := ((Hra.out.keep (w' := Wb.drewN (1 + n)) rfl).other hRn i (.int .u32 (divQ r (dg ds i) d))).set 0 (divR r (dg ds i) d) (by simp)
      simpa using this
    rw [HW1.out] at HT2
    have hnew : val 4294967296 (ds.drop i) = val 4294967296 ((cs.set i (divQ r (dg ds i) d)).drop i) * d + divR r (dg ds i) d := by
      rw [val_drop (b := 4294967296) (ds := cs.set i (divQ r (dg ds i) d)) (by rw [List.length_set]; omega), dg_set _ _ _ _ (by omega), if_pos rfl, List.drop_set_of_lt (by omega)]
      exact digit_step _ _ d (dg ds i) r _ (val_drop _ hi') Hv.out.out
    refine ⟨?_, HT2, _, cs.set i (divQ r (dg ds i) d), hr', by simpa using hcl, hcd.set _ hq, ?_, HRa, HRg⟩
    · rw [← HW1.out]
      exact (((show KeepsOthers Wb (Wb.drewN (1 + n)) from ⟨Nat.le_refl _, fun _ _ h _ => h⟩).trans (KeepsOthers.setCell _ _ _)).trans (KeepsOthers.setCell _ _ _)).from _
    show _ = _
    rw [Hk2.out]
    exact hnew
  case done =>
    rintro D W hD ⟨hT, r, cs, hrl, hcl, hcd, hv, hra', hrg⟩ hK
    have c1 := (hT.cell (a := ⟨h + 1, 0, none⟩) (by show h + 1 < _; omega) (by show ¬ (h + 1 = h + 1 + 1 ∨ h + 1 = R); omega)).trans k1
    have f1 := (hT.frozen (a := ⟨h + 1, 0, none⟩) (by show h + 1 < _; omega) (by show ¬ (h + 1 = h + 1 + 1 ∨ h + 1 = R); omega)).trans g1
    have cr := hra'.cell (j := 0) (by simp)
    simp only [dg, List.getElem?_cons_zero, Option.getD_some] at cr
    have hBW : Below h w W := ⟨hT.os.trans hB.os, hT.tape.trans hB.tape, hT.output.trans hB.output, Nat.le_trans hB.size hT.size, fun k hk => (hT.block k (by omega) (by omega)).trans (hB.block k hk)⟩
    have hWs := hT.size
    have e1 : h + 1 < W.heap.size := by omega
    have e2 : R < W.heap.size := by omega
    have hall := hrg.all cs.length (Nat.le_refl _)
    rw [hcl] at hall
    have hv' : val 4294967296 ds = val 4294967296 cs * d + r := by have := hv.out; simpa using this
    have hmod : val 4294967296 ds % d = r := by rw [hv', Nat.mul_add_mod_self_right]; exact Nat.mod_eq_of_lt hrl
    have hdiv : val 4294967296 ds / d = val 4294967296 cs := by rw [hv', Nat.mul_comm, Nat.mul_add_div hd0, Nat.div_eq_of_lt hrl, Nat.add_zero]
    have H10 : ∀ w', Below W.heap.size W w' → Calls Tryz.prog 45 #[.slice (some ⟨h + 1 + 1, 0, none⟩) ds.length ds.length] w' fun e w'' => (∃ v, e = .returned v ∧ Nums .u32 w'' v (cut cs)) ∧ Below w'.heap.size w' w'' := fun w' hB' =>
      trim_any (hall.below hB' (Nat.le_refl _)) (by omega)
    have H1 := Lib.hid H10
    have H2 := Lib.hid (fun W' => of_any r W' (by omega))
    have hcd' : Dig 4294967296 cs := hcd
    have hrw := Lib.hid (show IntKind.u64.wrap ((r : Nat) : Int) = ((r : Nat) : Int) from wraps_u64 _ (by omega) (by omega))
    have HN := Lib.hid (And.intro hdiv hmod)
    have HK := Lib.hid hK
    have hhh := Lib.hid hh
    have hbh : h ≤ W.heap.size := by omega
    have hhD : h ≤ D := by omega
    have hbx := Below.refl W.heap.size W
    clear hK hdiv hmod hv' hv hall H10 hT hra' hrg hWs k0 k1 g1 hr4 hra c3 hne' hat hcl hB hs hh hR; go_wp2_with fail
    refine wp_region_noPanic ?_
    have hbd : Below W.heap.size W W.drew := hbx.drew
    go_region_with (first
      | (go_at_call 45; have hthis := H1.out W.drew hbd; refine hthis.mono ?_; clear hthis; rintro e w2 ⟨⟨v1, rfl, p1, K1, rfl, at1⟩, hB1⟩; have d1 := (hB1.cell (p := ⟨h + 1, 0, none⟩) e1).trans c1; have df1 := (hB1.frozen (p := ⟨h + 1, 0, none⟩) e1).trans f1; have dr := (hB1.cell (p := ⟨R, 0, none⟩) e2).trans cr; have hB1s := hB1.size)
      | (go_at_call 28; rw [hrw.out]; refine (H2.out _).mono ?_; rintro e w3 ⟨⟨v2, rfl, n2⟩, hB2⟩; have d21 := (hB2.cell (p := ⟨h + 1, 0, none⟩) (Nat.lt_of_lt_of_le e1 hB1s)).trans d1; have df21 := (hB2.frozen (p := ⟨h + 1, 0, none⟩) (Nat.lt_of_lt_of_le e1 hB1s)).trans df1))
    all_goals refine NoPanic.normal ?_
    all_goals
      (go_wp2_with fail
       have hK := HK.out
       have hDl : D < W.heap.size := (Array.getElem?_eq_some_iff.1 hK).1
       have hK2 := (hB1.block D hDl).trans hK
       have hK3 := (hB2.block D (Nat.lt_of_lt_of_le hDl hB1s)).trans hK2
       have hK4 := (KeepsOthers.setCell w3 ⟨h + 1, 0, none⟩ (Value.slice p1 (cut cs).length K1)).same D _ hK3 rfl
       have hc5 := put_cell hK4 (World.cell?_setCell_same' w3 ⟨h + 1, 0, none⟩ (Value.slice p1 (cut cs).length K1) (by rw [d21]; rfl))
       have hBa : Below h w w3 := (hBW.trans (hbd.mono hbh)).trans ((hB1.trans (hB2.mono hB1s)).mono hbh)
       have hB5 := hBa.setCell (p := ⟨h + 1, 0, none⟩) (Nat.le_succ h) (Value.slice p1 (cut cs).length K1)
       have hP := put_below hhD hK4 (hhh.out ▸ hB5.size)
       refine marks_ret (v := .tuple #[.slice p1 (cut cs).length K1, v2]) hK4 ?_ ⟨⟨_, _, rfl, ?_, ?_⟩, ?_⟩
       · simp [results, Tryz.f79, go_sem, hc5]
       · exact ⟨cut cs, ⟨p1, K1, rfl, ((at1.below hB2 (Nat.le_refl _)).other _ d21 (by intro n h; cases h)).put hK4⟩, can_cut hcd, by rw [val_cut]; exact HN.out.1.symm⟩
       · rw [HN.out.2]
         exact (n2.other _ d21 (by intro n h; cases h)).put hK4
       · rw [hhh.out]
         exact hB5.trans hP)
  case stop => exact fun _ _ _ _ _ _ hf => hf.elim
end
def LongAns (n : Nat) : Prop := 4294967296 ≤ n → ∀ (p1 p2 : Option Addr) (K1 K2 : Nat) (ds es : List Nat) (w : World), At .u32 w p1 K1 ds → At .u32 w p2 K2 es → Can 4294967296 ds → Can 4294967296 es → 2 ≤ es.length → val 4294967296 es = n → n ≤ val 4294967296 ds → ds.length ≤ 512 → es.length ≤ 512 →
  Calls Tryz.prog 80 #[.slice p1 ds.length K1, .slice p2 es.length K2] w fun e w' => (∃ v1 v2, e = .returned (.tuple #[v1, v2]) ∧ IsNat w' v1 (val 4294967296 ds / n) ∧ IsNat w' v2 (val 4294967296 ds % n)) ∧ Below w.heap.size w w'
def Parts (m n : Nat) (w' : World) (v1 v2 : Value) (c : Int) : Prop := (n = 0 → v1 = .slice none 0 0 ∧ v2 = .slice none 0 0 ∧ c = 10) ∧ (0 < n → c = 0 ∧ IsNat w' v1 (m / n) ∧ IsNat w' v2 (m % n))
theorem Nums.nat {w : World} {v : Value} {ds : List Nat} (h : Nums .u32 w v ds) (hc : Can 4294967296 ds) : IsNat w v (val 4294967296 ds) := ⟨ds, h, hc, rfl⟩
theorem IsNat.zero (w : World) : IsNat w (.slice none 0 0) 0 := ⟨[], .nil _ _, Can.nil _, rfl⟩
set_option maxRecDepth 100000 in
set_option maxHeartbeats 2000000 in
theorem div_of {va vb : Value} {m n : Nat} {w : World} (hlong : LongAns n) (ha : IsNat w va m) (hb : IsNat w vb n) (hm : m < maxN) (hn : n < maxN) :
    Calls Tryz.prog 49 #[va, vb] w fun e w' => (∃ v1 v2 c, e = .returned (.tuple #[v1, v2, .int .i64 c]) ∧ Parts m n w' v1 v2 c) ∧ Below w.heap.size w w' := by
  obtain ⟨ds, hv1, hc1, rfl⟩ := ha
  obtain ⟨es, hv2, hc2, rfl⟩ := hb
  have hl1 : ds.length ≤ 512 := hc1.len_max.2 hm
  have hl2 : es.length ≤ 512 := hc2.len_max.2 hn
  clear hm hn
  have C1 := trim_any hv1 (by omega)
  rw [hc1.2] at C1
  have H1 := Lib.hid C1
  have C2 : ∀ W, Below w.heap.size w W → Calls Tryz.prog 45 #[vb] W fun e w' => (∃ v, e = .returned v ∧ Nums .u32 w' v es) ∧ Below W.heap.size W w' := fun W hW => by
    have := trim_any (hv2.below hW (Nat.le_refl _)) (by omega)
    rwa [hc2.2] at this
  have H2 := Lib.hid C2
  obtain ⟨q1, k1, rfl, -⟩ := hv1
  obtain ⟨q2, k2, rfl, -⟩ := hv2
  clear C1 C2
  have HLong := Lib.hid hlong
  clear hlong
  go_enter Tryz.func49, Tryz.ntmps49
  go_wp2_with fail
  refine H1.out.mono ?_
  rintro e w1 ⟨⟨v1, rfl, hr1⟩, hB1⟩
  go_wp2_with fail
  refine (H2.out _ hB1).mono ?_
  rintro e w2 ⟨⟨v2, rfl, hr2⟩, hB2⟩
  have hB : Below w.heap.size w w2 := hB1.trans (hB2.mono hB1.size)
  have hr1 := hr1.below hB2 (Nat.le_refl _)
  clear H1 H2 hB1 hB2
  have HC := Lib.hid (compare_any hr1 hr2 hc1 hc2 hl1 hl2)
  obtain ⟨p1, K1, rfl, at1⟩ := hr1
  obtain ⟨p2, K2, rfl, at2⟩ := hr2
  have hl1' : ¬ (512 : Int) < ((ds.length : Nat) : Int) := by omega
  have hl2' : ¬ (512 : Int) < ((es.length : Nat) : Int) := by omega
  have HL1 := Lib.hid hl1; have HL2 := Lib.hid hl2
  clear hl1 hl2
  by_cases h0 : es.length = 0
  · have hz : es = [] := List.length_eq_zero_iff.1 h0
    subst hz
    go_wp2
    go_ret3
    exact ⟨⟨_, _, _, rfl, fun _ => ⟨rfl, rfl, rfl⟩, fun h => by simp [val] at h⟩, hB⟩
  · have h0' : (((es.length : Nat) : Int) == 0) = false := beq_eq_false_iff_ne.2 (by omega)
    have h0n : ¬ ((es.length : Nat) : Int) = 0 := by omega
    have hpos : 0 < val 4294967296 es := by
      rcases Nat.eq_zero_or_pos (val 4294967296 es) with h | h
      · have := hc2.eq_nil (by decide) h
        simp [this] at h0
      · exact h
    have Hpos := Lib.hid hpos; have H0 := Lib.hid h0
    clear hpos h0
    by_cases hlt : val 4294967296 ds < val 4294967296 es
    · have hcc : cmpI (val 4294967296 ds) (val 4294967296 es) = -1 := by unfold cmpI; rw [if_pos (by omega)]
      have C := HC.out
      rw [hcc] at C
      have HC := Lib.hid C
      have HLt := Lib.hid hlt
      clear C hlt hcc; go_wp2_with fail
      refine HC.out.mono ?_
      rintro e w3 ⟨rfl, hB3⟩
      have hBx := hB.trans (hB3.mono hB.size)
      have at1 := at1.below hB3 (Nat.le_refl _)
      clear HC hB hB3
      obtain ⟨wb, rfl⟩ : ∃ wb : World, wb = w3 := ⟨_, rfl⟩
      go_upto_region 8 with (at_make; refine make_nat rfl _ _ rfl _ _ ds.length rfl rfl ?hL ?hC ?hn wb.heap.size wb (Below.refl _ _) (Nat.le_refl _) (fun w3 hr3 hB3 hB3' => ?_))
      case hL => rfl
      case hC => rfl
      case hn => have := HL1.out; omega
      have at1' := at1.below hB3 (Nat.le_refl _)
      go_upto_region 9 with (refine copy_nat rfl (.tmp 37) (.tmp 38) rfl wb.heap.size _ _ ds _ _ _ _ rfl rfl ?hd ?hs hr3 at1' ?hle wb.heap.size wb hB3 (Nat.le_refl _) (fun w4 hr4 hB4 => ?_))
      case hd => simp
      case hs => rfl
      case hle => simp
      have hr4 : Row .u32 88 w4 wb.heap.size ds := by simpa using hr4
      clear hr3 hB3 hB3' at1'
      go_wp2
      go_ret3
      refine ⟨⟨_, _, _, rfl, fun h => by have := Hpos.out; omega, fun _ => ⟨rfl, ?_, ?_⟩⟩, hBx.trans (hB4.mono hBx.size)⟩
      · rw [Nat.div_eq_of_lt HLt.out]; exact IsNat.zero _
      · rw [Nat.mod_eq_of_lt HLt.out]
        exact Nums.nat (hr4.all ds.length (Nat.le_refl _)) hc1
    · have hcc : ¬ cmpI (val 4294967296 ds) (val 4294967296 es) < 0 := by unfold cmpI; rw [if_neg (by omega)]; split <;> omega
      have HLt := Lib.hid (Nat.le_of_not_lt hlt)
      clear hlt
      generalize cmpI (val 4294967296 ds) (val 4294967296 es) = cc at *
      go_wp2_with fail
      refine HC.out.mono ?_
      rintro e w3 ⟨rfl, hB3⟩
      have hBx := hB.trans (hB3.mono hB.size)
      have at1 := at1.below hB3 (Nat.le_refl _)
      have at2 := at2.below hB3 (Nat.le_refl _)
      clear HC hB hB3
      have HX := Lib.hid hBx
      clear hBx
      by_cases h1 : es.length = 1
      · obtain ⟨d, rfl⟩ := List.length_eq_one_iff.1 h1
        have hd := hc2.1 d (by simp)
        obtain ⟨b2, o2, rfl, hk2, hb2, hy2⟩ := at2.pos (by simp)
        have hd0 := hy2 0 (by simp)
        simp only [dg, List.getElem?_cons_zero, Option.getD_some, Nat.add_zero] at hd0
        have hvd : val 4294967296 [d] = d := by simp [val]
        have D := digit_any p1 K1 d ds w3 at1 hc1.1 HL1.out (by have := Hpos.out; omega) hd
        rw [show val 4294967296 ds / d = val 4294967296 ds / val 4294967296 [d] by rw [hvd], show val 4294967296 ds % d = val 4294967296 ds % val 4294967296 [d] by rw [hvd]] at D
        have HD := Lib.hid D
        have HV := Lib.hid hvd
        have h1' : (0 : Int) < (([d].length : Nat) : Int) := by simp
        clear D hvd hy2 hc2 hl2' h1 at2 h0' h0n
        go_wp2_with (refine HD.out.mono ?_; rintro e w4 ⟨⟨v1, v2, rfl, n1, n2⟩, hB4⟩)
        go_ret3
        exact ⟨⟨_, _, _, rfl, fun h => by have := Hpos.out; omega, fun _ => ⟨rfl, n1, n2⟩⟩, HX.out.trans (hB4.mono HX.out.size)⟩
      · have h1' : (((es.length : Nat) : Int) == 1) = false := beq_eq_false_iff_ne.2 (by omega)
        have h1n : ¬ ((es.length : Nat) : Int) = 1 := by omega
        have h2 : 2 ≤ es.length := by have := H0.out; omega
        have hbig : 4294967296 ≤ val 4294967296 es := by
          have h3 := hc2.pos (by rintro rfl; simp at h2)
          have h4 := Nat.pow_le_pow_right (n := 4294967296) (by decide) (show 1 ≤ es.length - 1 by omega)
          rw [Nat.pow_one] at h4
          omega
        have HD := Lib.hid (HLong.out hbig p1 p2 K1 K2 ds es w3 at1 at2 hc1 hc2 h2 rfl HLt.out HL1.out HL2.out)
        clear h1 h2 hbig
        go_wp2_with (refine HD.out.mono ?_; rintro e w4 ⟨⟨v1, v2, rfl, n1, n2⟩, hB4⟩)
        go_ret3
        exact ⟨⟨_, _, _, rfl, fun h => by have := Hpos.out; omega, fun _ => ⟨rfl, n1, n2⟩⟩, HX.out.trans (hB4.mono HX.out.size)⟩
theorem lt_maxN {m : Nat} (h : m < 340282366920938463463374607431768211456) : m < maxN := by
  have h1 := Nat.pow_le_pow_right (n := 4294967296) (show 0 < 4294967296 by decide) (show 4 ≤ 512 by decide)
  have h2 : (4294967296 : Nat) ^ 4 = 340282366920938463463374607431768211456 := by decide
  unfold maxN
  omega
theorem IsNat.eq {w : World} {v : Value} {m n : Nat} (h : IsNat w v m) (e : m = n) : IsNat w v n := e ▸ h
theorem add_fit {va vb : Value} {m n : Nat} {w : World} (ha : IsNat w va m) (hb : IsNat w vb n) (h : m + n < maxN) :
    Calls Tryz.prog 104 #[va, vb] w fun e w' => (∃ v, e = .returned (.tuple #[v, .int .i64 0]) ∧ IsNat w' v (m + n)) ∧ Below w.heap.size w w' :=
  (add_any ha hb (by omega) (by omega)).mono fun e w' ⟨⟨v, c, he, hf⟩, hB⟩ => by
    obtain ⟨rfl, hn⟩ := hf.1 h
    exact ⟨⟨v, he, hn⟩, hB⟩
theorem mul_fit {va vb : Value} {m n : Nat} {w : World} (ha : IsNat w va m) (hb : IsNat w vb n) (hm : m < maxN) (hn : n < maxN) (h : m * n < maxN) :
    Calls Tryz.prog 102 #[va, vb] w fun e w' => (∃ v, e = .returned (.tuple #[v, .int .i64 0]) ∧ IsNat w' v (m * n)) ∧ Below w.heap.size w w' :=
  (mul_any ha hb hm hn).mono fun e w' ⟨⟨v, c, he, hf⟩, hB⟩ => by
    obtain ⟨rfl, hn⟩ := hf.1 h
    exact ⟨⟨v, he, hn⟩, hB⟩
theorem small_fit {va : Value} {m : Nat} {w : World} (ha : IsNat w va m) (hm : m < 18446744073709551616) : Calls Tryz.prog 78 #[va] w fun e w' => e = .returned (.tuple #[.int .u64 m, .int .i64 0]) ∧ Below w.heap.size w w' :=
  (small_any ha (lt_maxN (by omega))).mono fun e w' ⟨h, hB⟩ => ⟨h.elim (fun h => h.2) (fun h => by omega), hB⟩
theorem div_fit {va vb : Value} {m n : Nat} {w : World} (hlong : LongAns n) (ha : IsNat w va m) (hb : IsNat w vb n) (hm : m < maxN) (hn : n < maxN) (h0 : 0 < n) :
    Calls Tryz.prog 49 #[va, vb] w fun e w' => (∃ v1 v2, e = .returned (.tuple #[v1, v2, .int .i64 0]) ∧ IsNat w' v1 (m / n) ∧ IsNat w' v2 (m % n)) ∧ Below w.heap.size w w' :=
  (div_of hlong ha hb hm hn).mono fun e w' ⟨⟨v1, v2, c, he, hf⟩, hB⟩ => by
    obtain ⟨rfl, h1, h2⟩ := hf.2 h0
    exact ⟨⟨v1, v2, he, h1, h2⟩, hB⟩
theorem small_over {va : Value} {m : Nat} {w : World} (ha : IsNat w va m) (hm : m < maxN) (h : 18446744073709551616 ≤ m) : Calls Tryz.prog 78 #[va] w fun e w' => e = .returned (.tuple #[.int .u64 0, .int .i64 11]) ∧ Below w.heap.size w w' :=
  (small_any ha hm).mono fun e w' ⟨h1, hB⟩ => ⟨h1.elim (fun h1 => by omega) (fun h1 => h1.2), hB⟩
theorem below_drewN {B : Nat} {a w : World} (h : Below B a w) (n : Nat) : Below B a (w.drewN n) := ⟨h.os, h.tape, h.output, h.size, h.block⟩
end Go.Proofs.YtcfgefbkeeedgaaGreat
namespace Go.Proofs.YtcfgefbkeeedgaaGreat
theorem Dig.snoc {b y : Nat} {ds : List Nat} (h : Dig b ds) (hy : y < b) : Dig b (ds ++ [y]) := h.append (Dig.cons hy (fun _ h => (nomatch h)))
theorem val_drop_all (b : Nat) (ds : List Nat) (i : Nat) : val b (ds.drop i) = dg ds i + b * val b (ds.drop (i + 1)) := by
  rcases Nat.lt_or_ge i ds.length with h | h
  · exact val_drop b h
  · rw [List.drop_of_length_le h, List.drop_of_length_le (by omega), dg_over h]; simp [val]
theorem val_take_add (b : Nat) (ds : List Nat) (s m : Nat) : val b (ds.take (s + m)) = val b (ds.take s) + b ^ s * val b ((ds.drop s).take m) := by
  rcases Nat.lt_or_ge s ds.length with h | h
  · rw [List.take_add, val_append, show (ds.take s).length = s by simp; omega]
  · rw [List.take_of_length_le h, List.take_of_length_le (by omega), List.drop_of_length_le h]; simp [val]
structure LongInv (xs rs qs : List Nat) (i N Y : Nat) : Prop where
  rl : rs.length = xs.length
  rd : Dig 4294967296 rs
  lo : ∀ j, j < i → dg rs j = dg xs j
  eq : val 4294967296 (xs.drop i) = val 4294967296 (qs.drop i) * Y + val 4294967296 (rs.drop i)
  lt : val 4294967296 (rs.drop i) < Y
  ql : qs.length = N
  qd : Dig 4294967296 qs
theorem high_zero {rs : List Nat} {i lb Y : Nat} (h : val 4294967296 (rs.drop (i + 1)) < Y) (hY : Y ≤ 4294967296 ^ lb) : val 4294967296 (rs.drop (i + (lb + 1))) = 0 := by
  have h1 : val 4294967296 (rs.drop (i + 1)) = val 4294967296 ((rs.drop (i + 1)).take lb) + 4294967296 ^ ((rs.drop (i + 1)).take lb).length * val 4294967296 ((rs.drop (i + 1)).drop lb) := by
    conv => lhs; rw [(List.take_append_drop lb (rs.drop (i + 1))).symm]
    exact val_append _ _ _
  rw [List.drop_drop, show i + 1 + lb = i + (lb + 1) by omega] at h1
  rcases Nat.eq_zero_or_pos (val 4294967296 (rs.drop (i + (lb + 1)))) with h2 | h2
  · exact h2
  · exfalso
    have h3 : ((rs.drop (i + 1)).take lb).length = lb := by
      rw [List.length_take]
      refine Nat.min_eq_left ?_
      rcases Nat.lt_or_ge (rs.drop (i + 1)).length lb with h | h
      · exfalso
        rw [List.drop_of_length_le (by simp at h; omega)] at h2
        simp [val] at h2
      · exact h
    rw [h3] at h1
    have := Nat.le_mul_of_pos_right (4294967296 ^ lb) h2
    omega
theorem LongInv.seg {xs rs qs : List Nat} {i N Y lb : Nat} (h : LongInv xs rs qs (i + 1) N Y) (hi : i < N) (hN : N + lb = xs.length) (hY : Y ≤ 4294967296 ^ lb) :
    ((rs.drop i).take (lb + 1)).length = lb + 1 ∧ val 4294967296 ((rs.drop i).take (lb + 1)) = dg rs i + 4294967296 * val 4294967296 (rs.drop (i + 1)) ∧ val 4294967296 ((rs.drop i).take (lb + 1)) < 4294967296 * Y := by
  have h0 := high_zero h.lt hY
  have hl : ((rs.drop i).take (lb + 1)).length = lb + 1 := by have := h.rl; simp; omega
  have h1 : val 4294967296 (rs.drop i) = val 4294967296 ((rs.drop i).take (lb + 1)) + 4294967296 ^ ((rs.drop i).take (lb + 1)).length * val 4294967296 ((rs.drop i).drop (lb + 1)) := by
    conv => lhs; rw [(List.take_append_drop (lb + 1) (rs.drop i)).symm]
    exact val_append _ _ _
  rw [List.drop_drop, h0, Nat.mul_zero, Nat.add_zero, val_drop_all] at h1
  refine ⟨hl, h1.symm, ?_⟩
  rw [← h1]
  have h2 := h.lt
  have h3 := h.rd.dg (by decide) i
  omega
theorem LongInv.step {xs rs qs seg' : List Nat} {i N Y lb S : Nat} (h : LongInv xs rs qs (i + 1) N Y) (hi : i < N) (hN : N + lb = xs.length) (hY : Y ≤ 4294967296 ^ lb) (hY0 : 0 < Y)
    (hS : S = val 4294967296 ((rs.drop i).take (lb + 1))) (hl : seg'.length = lb + 1) (hd : Dig 4294967296 seg') (hv : val 4294967296 seg' + S / Y * Y = S) :
    LongInv xs (rs.take i ++ (seg' ++ rs.drop (i + (lb + 1)))) (qs.set i (S / Y)) i N Y := by
  obtain ⟨h1, h2, h3⟩ := h.seg hi hN hY
  have h0 := high_zero h.lt hY
  have hrl := h.rl
  have hti : (rs.take i).length = i := by simp; omega
  have hdr : (rs.take i ++ (seg' ++ rs.drop (i + (lb + 1)))).drop i = seg' ++ rs.drop (i + (lb + 1)) := by
    rw [List.drop_append, hti, Nat.sub_self, List.drop_zero, List.drop_of_length_le (by omega), List.nil_append]
  have hq : S / Y < 4294967296 := by
    rw [← hS] at h3
    exact (Nat.div_lt_iff_lt_mul hY0).2 h3
  have hmod : val 4294967296 seg' = S % Y := by
    have := Nat.div_add_mod S Y
    rw [Nat.mul_comm] at this
    omega
  refine ⟨by simp; omega, ((h.rd.take i).append (hd.append (h.rd.drop _))), fun j hj => ?_, ?_, ?_, by rw [List.length_set]; exact h.ql, h.qd.set i hq⟩
  · rw [dg_append_left _ (by omega), dg_take _ hj]
    exact h.lo j (by omega)
  · rw [hdr, val_append, h0, Nat.mul_zero, Nat.add_zero, val_drop_all _ xs i, val_drop_all _ (qs.set i (S / Y)) i, dg_set _ _ _ _ (by have := h.ql; omega), if_pos rfl, List.drop_set_of_lt (by omega), h.eq, ← h.lo i (by omega)]
    rw [h2] at hS
    generalize val 4294967296 (rs.drop (i + 1)) = R at *
    generalize val 4294967296 (qs.drop (i + 1)) = Q at *
    generalize S / Y = q at *
    grind
  · rw [hdr, val_append, h0, Nat.mul_zero, Nat.add_zero, hmod]
    exact Nat.mod_lt _ hY0
theorem LongInv.start {xs : List Nat} {N Y lb la n A b : Nat} (hd : Dig 4294967296 xs) (hN : N + lb = xs.length) (hla : xs.length = la + 1) (hv : val 4294967296 xs = 2 ^ n * A) (hA : A < 4294967296 ^ la) (hY : Y = 2 ^ n * b) (hlb : 1 ≤ lb) (hb : 4294967296 ^ (lb - 1) ≤ b) :
    LongInv xs xs (List.replicate N 0) N N Y := by
  refine ⟨rfl, hd, fun _ _ => rfl, ?_, ?_, by simp, fun y hy => by simp at hy; omega⟩
  · rw [List.drop_of_length_le (l := List.replicate N 0) (by simp)]; simp [val]
  · have h1 := val_take_add 4294967296 xs N lb
    rw [List.take_of_length_le (l := xs) (by omega), List.take_of_length_le (l := xs.drop N) (by rw [List.length_drop]; omega)] at h1
    have h2 : 4294967296 ^ N * val 4294967296 (xs.drop N) < 2 ^ n * 4294967296 ^ la := by
      refine Nat.lt_of_le_of_lt ?_ (Nat.mul_lt_mul_of_pos_left hA (Nat.pow_pos (n := n) (show 0 < 2 by decide)))
      rw [← hv, h1]
      exact Nat.le_add_left _ _
    rw [show la = N + (lb - 1) by omega, Nat.pow_add, show 2 ^ n * (4294967296 ^ N * 4294967296 ^ (lb - 1)) = 4294967296 ^ N * (2 ^ n * 4294967296 ^ (lb - 1)) by grind] at h2
    have h3 := Nat.lt_of_mul_lt_mul_left h2
    have h4 := Nat.mul_le_mul_left (2 ^ n) hb
    omega
theorem LongInv.fin {xs rs qs : List Nat} {N Y n A b lb : Nat} (h : LongInv xs rs qs 0 N Y) (hv : val 4294967296 xs = 2 ^ n * A) (hY : Y = 2 ^ n * b) (hYl : Y ≤ 4294967296 ^ lb) :
    val 4294967296 qs = A / b ∧ val 4294967296 (rs.take lb) / 2 ^ n = A % b := by
  have h1 := h.eq
  have h2 := h.lt
  rw [List.drop_zero, List.drop_zero, List.drop_zero, hv] at h1
  rw [List.drop_zero] at h2
  have hp := Nat.pow_pos (n := n) (show 0 < 2 by decide)
  have h0 : 0 < Y := by omega
  have h3 : val 4294967296 (rs.take lb) = val 4294967296 rs := by
    have h4 : val 4294967296 rs = val 4294967296 (rs.take lb) + 4294967296 ^ (rs.take lb).length * val 4294967296 (rs.drop lb) := by
      conv => lhs; rw [(List.take_append_drop lb rs).symm]
      exact val_append _ _ _
    rcases Nat.lt_or_ge rs.length lb with h | h
    · rw [List.take_of_length_le (by omega)]
    · rw [show (rs.take lb).length = lb by simp; omega] at h4
      rcases Nat.eq_zero_or_pos (val 4294967296 (rs.drop lb)) with h5 | h5
      · rw [h5] at h4; omega
      · exfalso
        have := Nat.le_mul_of_pos_right (4294967296 ^ lb) h5
        omega
  rw [h3]
  constructor
  · rw [← Nat.mul_div_mul_left A b hp, h1, ← hY, Nat.mul_comm, Nat.mul_add_div h0, Nat.div_eq_of_lt h2, Nat.add_zero]
  · have h6 : 2 ^ n * (A % b) = val 4294967296 rs := by
      rw [← Nat.mul_mod_mul_left, h1, ← hY, Nat.mul_comm, Nat.mul_add_mod, Nat.mod_eq_of_lt h2]
    rw [← h6, Nat.mul_div_cancel_left _ hp]
theorem norm_facts (bs : List Nat) (lb n : Nat) (hl : bs.length = lb + 1) (hc : Can 4294967296 bs) (hn : n = 32 - Lib.bitLen (dg bs lb)) :
    n < 32 ∧ 2147483648 * 4294967296 ^ lb ≤ 2 ^ n * val 4294967296 bs ∧ 2 ^ n * val 4294967296 bs < 4294967296 ^ (lb + 1) ∧ 4294967296 ^ lb ≤ val 4294967296 bs := by
  have h0 : dg bs lb ≠ 0 := by
    have := hc.top (by rintro rfl; simp at hl)
    rwa [hl, Nat.add_sub_cancel] at this
  have ht := hc.1.dg (by decide) lb
  obtain ⟨b1, b2, b3⟩ := blen_bounds (dg bs lb) ht h0
  have b4 := blen_le (dg bs lb) ht
  have hv := val_split 4294967296 bs lb
  rw [List.drop_of_length_le (by omega)] at hv
  have hlo := val_lt (hc.1.take lb)
  rw [show (bs.take lb).length = lb by simp; omega] at hlo
  simp only [val, Nat.mul_zero, Nat.add_zero] at hv
  rw [Nat.pow_succ]
  generalize dg bs lb = t at *
  generalize Lib.bitLen t = l at *
  have e1 : 2 ^ n * 2 ^ (l - 1) = 2147483648 := by
    rw [← Nat.pow_add, show n + (l - 1) = 31 by omega]
  have e2 : 2 ^ n * 2 ^ l = 4294967296 := by
    rw [← Nat.pow_add, show n + l = 32 by omega]
  generalize (4294967296 : Nat) ^ lb = p at *
  have hp : p ≤ p * t := Nat.le_mul_of_pos_right p (by omega)
  refine ⟨by omega, ?_, ?_, by omega⟩
  · have h1 := Nat.mul_le_mul_left (2 ^ n) b2
    have h2 := Nat.mul_le_mul_right p h1
    rw [e1] at h2
    have h3 : 2 ^ n * val 4294967296 bs = 2 ^ n * val 4294967296 (bs.take lb) + 2 ^ n * t * p := by rw [hv]; grind
    omega
  · have h1 := Nat.mul_le_mul_left (2 ^ n) (show t + 1 ≤ 2 ^ l by omega)
    rw [e2] at h1
    have h2 := Nat.mul_le_mul_right p h1
    have h3 : val 4294967296 bs < (t + 1) * p := by rw [hv, Nat.add_mul, Nat.one_mul, Nat.mul_comm t p]; omega
    have h4 := Nat.mul_lt_mul_of_pos_left h3 (Nat.pow_pos (n := n) (show 0 < 2 by decide))
    rw [← Nat.mul_assoc] at h4
    have h5 : p * 4294967296 = 4294967296 * p := Nat.mul_comm _ _
    omega
theorem norm_top (ys : List Nat) (lb : Nat) (hl : ys.length = lb + 1) (hd : Dig 4294967296 ys) (h : 2147483648 * 4294967296 ^ lb ≤ val 4294967296 ys) : 2147483648 ≤ dg ys lb := by
  have hv := val_split 4294967296 ys lb
  rw [List.drop_of_length_le (by omega)] at hv
  have hlo := val_lt (hd.take lb)
  rw [show (ys.take lb).length = lb by simp; omega] at hlo
  simp only [val, Nat.mul_zero, Nat.add_zero] at hv
  generalize (4294967296 : Nat) ^ lb = p at *
  generalize dg ys lb = t at *
  rcases Nat.lt_or_ge t 2147483648 with h1 | h1
  · exfalso
    have := Nat.mul_le_mul_left p (show t + 1 ≤ 2147483648 by omega)
    rw [Nat.mul_add, Nat.mul_one, Nat.mul_comm p 2147483648] at this
    omega
  · exact h1
theorem dg_zeros (n j : Nat) : dg (List.replicate n 0) j = 0 := by
  unfold dg
  rw [List.getElem?_replicate]
  split <;> rfl
theorem top_zero {cs : List Nat} {m : Nat} (hl : cs.length = m + 1) (hv : val 4294967296 cs < 4294967296 ^ m) : val 4294967296 (cs.take m) = val 4294967296 cs := by
  have h := val_split 4294967296 cs m
  rw [List.drop_of_length_le (by omega)] at h
  simp only [val, Nat.mul_zero, Nat.add_zero] at h
  rcases Nat.eq_zero_or_pos (dg cs m) with h1 | h1
  · rw [h1] at h; omega
  · exfalso
    have := Nat.le_mul_of_pos_right (4294967296 ^ m) h1
    omega
end Go.Proofs.YtcfgefbkeeedgaaGreat
namespace Go.Proofs.YtcfgefbkeeedgaaGreat
open Go.RowKit
theorem sub_fit {va vb : Value} {m n : Nat} {w : World} (ha : IsNat w va m) (hb : IsNat w vb n) (hm : m < maxN) (h : n ≤ m) :
    Calls Tryz.prog 105 #[va, vb] w fun e w' => (∃ v, e = .returned (.tuple #[v, .int .i64 0]) ∧ IsNat w' v (m - n)) ∧ Below w.heap.size w w' :=
  (sub_any ha hb hm (by omega)).mono fun e w' ⟨⟨v, c, he, hf⟩, hB⟩ => by
    obtain ⟨rfl, hn⟩ := hf.1 h
    exact ⟨⟨v, he, hn⟩, hB⟩
set_option maxRecDepth 100000 in
set_option maxHeartbeats 1000000 in
theorem equal_nat (p1 p2 : Option Addr) (K1 K2 : Nat) (ds es : List Nat) (w : World) (at1 : At .u32 w p1 K1 ds) (at2 : At .u32 w p2 K2 es) (hl : ds.length ≤ 1000000) :
    Calls Tryz.prog 74 #[.slice p1 ds.length K1, .slice p2 es.length K2] w fun e w' => e = .returned (.bool (decide (ds = es))) ∧ Below w.heap.size w w' := by
  go_enter Tryz.func74, Tryz.ntmps74
  by_cases hlen : ds.length = es.length
  · have hl' : (((ds.length : Nat) : Int) != ((es.length : Nat) : Int)) = false := by simp [hlen]
    have HL := Lib.hid hlen
    clear hlen
    have hbw := Below.refl w.heap.size w
    go_wp2_with fail
    go_loopw [13] (fun si wr => ∃ k : Nat, k ≤ ds.length ∧ si = .int .i64 k ∧ Hid (∀ j, j < k → dg ds j = dg es j) ∧ Below w.heap.size w wr) (fun si _ => ds.length - (intOf si).toNat)
    case atStart => exact ⟨0, by omega, rfl, fun j hj => by omega, hbw⟩
    case round =>
      obtain ⟨k, hk, rfl, hz, hBr⟩ := hrel
      by_cases hlt : k < ds.length
      · obtain ⟨b1, o1, rfl, hk1, hb1, hx1⟩ := at1.pos (by omega)
        obtain ⟨b2, o2, rfl, hk2, hb2, hy2⟩ := at2.pos (by have := HL.out; omega)
        have hx := (hBr.cell (p := ⟨b1, o1 + k, none⟩) hb1).trans (hx1 k hlt)
        have hy := (hBr.cell (p := ⟨b2, o2 + k, none⟩) hb2).trans (hy2 k (by have := HL.out; omega))
        have hli : (k : Int) < ((ds.length : Nat) : Int) := by omega
        have hle : (k : Int) < ((es.length : Nat) : Int) := by have := HL.out; omega
        clear hx1 hy2
        by_cases hd : dg ds k = dg es k
        · have hd' : (((dg ds k : Nat) : Int) != ((dg es k : Nat) : Int)) = false := by simp [hd]
          have H := Lib.hid hd; clear hd
          go_wp2_with (go_quiet (fail))
          go_roundw
          case rel =>
            refine ⟨k + 1, by omega, by go_num, fun j hj => ?_, below_drewN hBr _⟩
            by_cases hjk : j = k
            · rw [hjk]; exact H.out
            · exact hz.out j (by omega)
          case measure => simp [intOf]; omega
        · have hd' : (((dg ds k : Nat) : Int) != ((dg es k : Nat) : Int)) = true := by simp; omega
          have H := Lib.hid hd; clear hd
          go_wp2_with (go_quiet (fail))
          go_ret
          refine ⟨ret_one ?_, below_drewN hBr _⟩
          rw [decide_eq_false (fun h => H.out (by rw [h]))]; rfl
      · have hge : ¬ (k : Int) < ((ds.length : Nat) : Int) := by omega
        have HE := Lib.hid (list_ext_dg HL.out fun j hj => hz.out j (by omega))
        clear hlt
        go_wp2
        go_ret
        exact ⟨ret_one (by rw [decide_eq_true HE.out]; rfl), hBr⟩
  · have hl' : (((ds.length : Nat) : Int) != ((es.length : Nat) : Int)) = true := by simp; omega
    have hl2 : ¬ ((ds.length : Nat) : Int) = ((es.length : Nat) : Int) := by omega
    have HL := Lib.hid hlen
    clear hlen
    go_wp2
    go_ret
    exact ⟨ret_one (by rw [decide_eq_false (fun h => HL.out (by rw [h]))]; rfl), Below.refl _ _⟩
end Go.Proofs.YtcfgefbkeeedgaaGreat
