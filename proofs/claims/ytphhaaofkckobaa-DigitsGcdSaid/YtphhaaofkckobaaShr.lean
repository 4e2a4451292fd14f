/-
  limbs.shiftRight and limbs.Right.
-/
import Derived.Test.YtphhaaofkckobaaLeft
import Derived.Test.YtphhaaofkckobaaRound
namespace Go.Proofs.Ytphhaaofkckobaa
open Go.RowKit
attribute [local go_sem] Oper.semAt_some

set_option maxRecDepth 100000 in
set_option maxHeartbeats 2000000 in
theorem shr_any (g cap n K : Nat) (p : Option Addr) (ds cs0 : List Nat) (w : World) (hrow : Row .u32 36 w g cs0) (hc0 : cs0.length = ds.length) (hcd0 : Dig 4294967296 cs0) (hds : Dig 4294967296 ds) (hn : n < 32) (hlen : ds.length ≤ 1000000)
    (hat : At .u32 w p K ds) (hne : ∀ a, p = some a → a.block ≠ g) :
    Calls Try.prog 65 #[.slice (some ⟨g, 0, none⟩) ds.length cap, .slice p ds.length K, .int .i64 n] w fun e w' => (∃ v, e = .returned v) ∧
      (∃ cs, cs.length = ds.length ∧ Dig 4294967296 cs ∧ val 4294967296 cs = val 4294967296 ds / 2 ^ n ∧ Row .u32 36 w' g cs) ∧ Only g w w' := by
  refine calls_marks Try.func65 rfl ?_
  simp only [Try.ntmps65, List.size_toArray, List.length_cons, List.length_nil, Nat.reduceAdd, Nat.reduceSub, Array.replicate_succ, Array.replicate_zero, List.push_toArray, List.append_toArray, List.nil_append, List.cons_append]
  have hgs := hrow.lt
  have hpl := hat.block
  go_wp2_with (go_at_call 54; refine (down_any _ _ _ _).mono ?_; rintro e w' ⟨rfl, rfl⟩)
  obtain ⟨h, hh⟩ : ∃ h, w.heap.size = h := ⟨_, rfl⟩
  obtain ⟨w1, hw1⟩ : ∃ w1, ((((w.alloc (.cells #[.slice (some ⟨g, 0, none⟩) ds.length cap] 23)).alloc (.cells #[.int .i64 n] 3)).alloc (.cells #[.int .u32 0] 36)).alloc (.cells #[.slice p ds.length K] 23)) = w1 := ⟨_, rfl⟩
  have hB : Below w.heap.size w w1 := by rw [← hw1]; exact ((((Below.refl _ w).alloc (Nat.le_refl _) _).alloc (by simp) _).alloc (by simp; omega) _).alloc (by simp; omega) _
  have hs : w1.heap.size = w.heap.size + 4 := by rw [← hw1]; simp
  have c0 : w1.cell? ⟨w.heap.size, 0, none⟩ = some (.slice (some ⟨g, 0, none⟩) ds.length cap) := by rw [← hw1]; simp [go_sem]
  have cn : w1.cell? ⟨w.heap.size + 1, 0, none⟩ = some (.int .i64 n) := by rw [← hw1]; simp [go_sem]
  have hab : Row .u32 36 w1 (w.heap.size + 2) [0] := by
    rw [← hw1]
    unfold Row
    rw [Below.heap_alloc _ _ _ (by simp)]
    have := World.alloc_heap_new ((w.alloc (.cells #[.slice (some ⟨g, 0, none⟩) ds.length cap] 23)).alloc (.cells #[.int .i64 n] 3)) (.cells #[.int .u32 0] 36)
    simpa [cellsOf] using this
  have c3 : w1.cell? ⟨w.heap.size + 1 + 1 + 1, 0, none⟩ = some (.slice p ds.length K) := by rw [← hw1]; simp [go_sem]
  have hrow := hrow.below hB hgs
  have hat := hat.below hB (Nat.le_refl _)
  rw [hw1]
  clear hw1
  have hov : ∀ k, k < w.heap.size → (k = g ∨ k = h + 2) → k = g := fun k hk ho => by omega
  have hB0 := hB
  have hwh : w.heap.size ≤ h := by omega
  rw [hh] at hs c0 cn hab c3 hgs hB hpl ⊢
  clear hh
  have hne' : ∀ a, p = some a → ¬ (a.block = g ∨ a.block = h + 2) := by
    intro a ha hor
    have h1 := hpl a ha
    have h2 := hne a ha
    omega
  refine rangePlain (gf := 70) (lb := #[.pointer (some ⟨h + 1 + 1 + 1, 0, none⟩)]) rfl (enters_of Try.func70 (by kernel_rfl) rfl) ds.length _ (fun _ => rfl)
    (fun k W => Turns (fun b => b = g ∨ b = h + 2) w1 W ∧ Row .u32 36 W (h + 2) [dg ds (ds.length - k)] ∧ ∃ cs, cs.length = ds.length ∧ Dig 4294967296 cs ∧ Hid (val 4294967296 (cs.drop (ds.length - k)) = val 4294967296 (ds.drop (ds.length - k)) / 2 ^ n) ∧ Row .u32 36 W g cs)
    (fun _ _ _ => False)
    (fun s W W' row hs' hg hr => by
      obtain ⟨h1, h2, cs, h3, h4, h5, h6⟩ := hs'
      exact ⟨h1.grown hg (fun r e => (hr r e).1), h2.grown hg (fun r e => (hr r e).2), cs, h3, h4, h5, h6.grown hg (fun r e => (hr r e).2)⟩)
    (fun _ _ _ _ _ hs _ _ => hs)
    ⟨Turns.refl _ _, by rw [Nat.sub_zero, dg_ge (Nat.le_refl _)]; exact hab, cs0, hc0, hcd0, by show _ = _; rw [Nat.sub_zero, List.drop_length, List.drop_of_length_le (by omega)]; simp [val], hrow⟩
    (down_seq 2 (h + 1 + 1 + 1) p K ds hlen _ fun k W hi => ⟨(hi.1.cell (a := ⟨h + 1 + 1 + 1, 0, none⟩) (by show h + 1 + 1 + 1 < _; omega) (by show ¬ (h + 1 + 1 + 1 = g ∨ h + 1 + 1 + 1 = h + 2); omega)).trans c3, hat.turns hi.1 hne'⟩)
    ?round ?done ?stop
  case round =>
    rintro l k W Wb hk ⟨hT, hra, cs, hcl, hcd, hv, hrg⟩
    have c0' := (hT.cell (a := ⟨h, 0, none⟩) (by show h < _; omega) (by show ¬ (h = g ∨ h = h + 2); omega)).trans c0
    have cn' := (hT.cell (a := ⟨h + 1, 0, none⟩) (by show h + 1 < _; omega) (by show ¬ (h + 1 = g ∨ h + 1 = h + 2); omega)).trans cn
    have ca' := hra.cell (j := 0) (by simp)
    have fa' := hra.free 0
    obtain ⟨i, hi, hi'⟩ : ∃ i, ds.length - 1 - k = i ∧ i < ds.length := ⟨_, rfl, by omega⟩
    have hk1 : ds.length - k = i + 1 := by omega
    have hk2 : ds.length - (k + 1) = i := by omega
    rw [hi]
    rw [hk1] at hv ca'
    have co' := hrg.cell (j := i) (by omega)
    have fo' := hrg.free i
    have hdi := hds.dg (by decide) i
    have hdj := hds.dg (by decide) (i + 1)
    have hii : (i : Int) < ((ds.length : Nat) : Int) := by omega
    have Hi := Lib.hid hi; have Hk1 := Lib.hid hk1; have Hk2 := Lib.hid hk2; have Hcl := Lib.hid hcl
    have Hra := Lib.hid hra; have Hrg := Lib.hid hrg; have HT := Lib.hid hT
    simp only [dg, List.getElem?_cons_zero, Option.getD_some] at ca'
    rw [show (ds[i + 1]?.getD 0) = dg ds (i + 1) from rfl] at ca'
    replace ca' : Wb.cell? ⟨h + 1 + 1, 0, none⟩ = some (.int .u32 (dg ds (i + 1) : Nat)) := ca'
    replace fa' : Wb.frozen? ⟨h + 1 + 1, 0, none⟩ = false := fa'
    clear hi hk1 hk2 hcl hra hrg hT
    have hmix : (Try.prog).follows .mixedOrders = true := by kernel_rfl
    clear c0 cn hrow hat c3 hab hne hne' hpl hcd0 hc0 hov
    gi_wp2
    refine ⟨trivial, ?_⟩
    gi_wp2
    refine round_still_tail 12 hmix (by kernel_rfl) (by kernel_rfl) (fun _ _ h => h) ?_
    simp only [List.take_succ_cons, List.take_zero, List.drop_succ_cons, List.drop_zero]
    repeat still_step
    try refine wpStill_nil ?_
    have e1 : IntKind.u64.wrap ((dg ds (i + 1) : Nat) : Int) = ((dg ds (i + 1) : Nat) : Int) := wraps_u64 _ (by omega) (by omega)
    have e2 : IntKind.u64.wrap ((dg ds i : Nat) : Int) = ((dg ds i : Nat) : Int) := wraps_u64 _ (by omega) (by omega)
    have e3 : IntKind.u64.wrap (((dg ds (i + 1) : Nat) : Int) * 4294967296) = ((dg ds (i + 1) : Nat) : Int) * 4294967296 := wraps_u64 _ (by omega) (by omega)
    rw [e1, e2, e3, or_hi _ _ hdj hdi]
    have e4 : IntKind.u32.wrap (((dg ds (i + 1) * 4294967296 + dg ds i : Nat) : Int) / 2 ^ n) = (((dg ds (i + 1) * 4294967296 + dg ds i) / 2 ^ n % 4294967296 : Nat) : Int) := by
      rw [IntKind.wrap_u32]; simp
    rw [e4]
    obtain ⟨X, hX⟩ : ∃ X, (dg ds (i + 1) * 4294967296 + dg ds i) / 2 ^ n % 4294967296 = X := ⟨_, rfl⟩
    rw [hX]
    have HX := Lib.hid hX
    clear e1 e2 e3 e4 hX
    change wpList _ _ _ _ _ Wb.drew
    go_wp2_with fail
    have ca2 : (Wb.setCell ⟨g, i, none⟩ (.int .u32 X)).cell? ⟨h + 1 + 1, 0, none⟩ = some (.int .u32 (dg ds (i + 1) : Nat)) := (World.cell?_setCell_other _ _ _ _ (by intro e; have := congrArg Addr.block e; simp at this; omega)).trans ca'
    have fa2 : (Wb.setCell ⟨g, i, none⟩ (.int .u32 X)).frozen? ⟨h + 1 + 1, 0, none⟩ = false := by rw [World.frozen?_setCell]; exact fa'
    gi_wp2
    have hcl := Hcl.out
    have hgne : g ≠ h + 2 := by omega
    have HR : Row .u32 36 ((Wb.setCell ⟨g, i, none⟩ (.int .u32 X)).setCell ⟨h + 2, 0, none⟩ (.int .u32 (dg ds i : Nat))) g (cs.set i X) := (Hrg.out.set i X (by omega)).other hgne 0 _
    have HA : Row .u32 36 ((Wb.setCell ⟨g, i, none⟩ (.int .u32 X)).setCell ⟨h + 2, 0, none⟩ (.int .u32 (dg ds i : Nat))) (h + 2) [dg ds i] := by
      have := (Hra.out.other (Ne.symm hgne) i (.int .u32 X)).set 0 (dg ds i) (by simp)
      simpa using this
    have HT2 := (HT.out.set (p := ⟨g, i, none⟩) (Or.inl rfl) (.int .u32 X)).set (p := ⟨h + 2, 0, none⟩) (Or.inr rfl) (.int .u32 (dg ds i : Nat))
    have hXl : X < 4294967296 := by rw [← HX.out]; exact Nat.mod_lt _ (by decide)
    have hnew : val 4294967296 ((cs.set i X).drop i) = val 4294967296 (ds.drop i) / 2 ^ n := by
      rw [val_drop _ (by simpa using (by omega : i < cs.length)), dg_set _ _ _ _ (by omega), if_pos rfl, List.drop_set_of_lt (by omega), hv.out, val_shr ds i n hn hi' hds, HX.out]
    refine ⟨(((KeepsOthers.setCell _ _ _).trans (KeepsOthers.setCell _ _ _)).trans (KeepsOthers.drew _)).from _, HT2.drew, by rw [Hk2.out]; exact HA.keep rfl, cs.set i X, by simpa using hcl, hcd.set _ hXl, ?_, HR.keep rfl⟩
    show _ = _
    rw [Hk2.out]
    exact hnew
  case done =>
    rintro D W hD ⟨hT, _, cs, hcl, hcd, hv, hrg⟩ hK
    go_wp2
    have hO : Only g w W := hT.only hB0 hov
    refine ⟨by simp, .inl ⟨_, _, rfl, run_takeDeferred hK, .tuple #[], by simp [results, Try.f65, go_sem], ⟨_, rfl⟩, ⟨cs, hcl, hcd, by have := hv.out; simpa using this, ?_⟩, ?_⟩⟩
    · exact hrg.keep (World.putObj_heap_other (by omega))
    · exact ⟨hO.os, hO.tape, hO.output, by simpa using hO.size, fun k hk hn => (World.putObj_heap_other (by omega)).trans (hO.block k hk hn)⟩
  case stop => exact fun _ _ _ _ _ _ hf => hf.elim

end Go.Proofs.Ytphhaaofkckobaa
