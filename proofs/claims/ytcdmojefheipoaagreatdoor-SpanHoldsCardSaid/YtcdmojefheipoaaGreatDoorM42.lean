/-
  THE ROW AND THE TIED CARD of girdlelaw06.SpanHolds.
-/
import Derived.Test.YtcdmojefheipoaaGreatDoorM35
import Derived.Test.YtcdmojefheipoaaGreatDoorM37
import Derived.Test.YtcdmojefheipoaaGreatDoorM40
import Derived.Test.YtcdmojefheipoaaGreatDoorM41
import Derived.Test.YtcdmojefheipoaaGreatDoorTie
import Derived.Test.YtcdmojefheipoaaGreatDoorCards
namespace Go.Proofs.YtcdmojefheipoaaGreatDoor
open Go.ChangeShapes Go.WideShapes Go.ChangeAt Go.RowKit
set_option maxRecDepth 100000 in
theorem spanHolds_lifted (os : Os) (started : os.Started) (H : Type) (enc : TypeId × Value → H) :
    ReturnsInHanded {} Tryz.checked os 3 .any (fun w args => (Rows.spanHoldsSpec.pre enc Tryz.prog Tryz.f3 [] false w args ∧ laidMetH Tryz.prog tabLaid w) ∧ sizedMet enc Tryz.prog Tryz.f3 (OpenSpec.ofChange Rows.spanHoldsSpec) false w args)
      (Rows.spanHoldsSpec.post enc Tryz.prog Tryz.f3 false true false false) := by
  refine returnsInHanded_of_change_and (C := Tryz.checked) (X := fun w _ => laidMetH Tryz.prog tabLaid w) (fun _ _ _ hh h => h.of_heap hh) own started (by kernel_rfl) Tryz.func3
    (ChangeSpec.witness_shaped (enc := enc) (C := Tryz.checked) (os := os) (X := fun w _ => laidMetH Tryz.prog tabLaid w) false (World.doorLaid Tryz.prog 400 os) #[.agg #[.bool false, .slice none 0 0, .int .i64 0, .bool false, .slice none 0 0, .int .i64 0], .agg #[.bool false, .slice none 0 0, .int .i64 0, .bool false, .slice none 0 0, .int .i64 0], .agg #[.int .i64 0, .int .i64 0, .int .i64 0]] 8 rfl (World.shaped_of_RefB (by kernel_rfl) (by kernel_rfl)) (by kernel_rfl) (by kernel_rfl) (by kernel_rfl) (door_met os _)) ?_
  intro W base args ds gs before hval0 hW _ _ hL _
  have hval : ∀ (j : Nat) t v, Tryz.f3.params[j]? = some t → args[j]? = some v → Value.okWide Tryz.prog W .any base t v := hval0
  have hW' := hW
  obtain ⟨p, q, hA0, hV, rfl, hfz, hnd⟩ := hW
  have hA : DataW.TrodAll enc Tryz.prog W 0 (fun _ => true) true Tryz.f3.params.toList args.toList ds p := hA0
  rw [Tryz.params3] at hA hval
  obtain ⟨v0, v1, v2, d0, d1, d2, p0, p1, p2, rfl, rfl, rfl, h0, h1, h2⟩ := trodAll_three hA
  obtain ⟨rfl, rfl⟩ := trodVars_none hV
  have h0k := h0
  obtain ⟨c0, a0, K0, xs0, e0, g0, b0, J0, ys0, f0, rfl, hat0, hdig0, hct0, heig0⟩ := open_span (hval 0 29 v0 rfl rfl) h0
  have h1k := h1
  obtain ⟨c1, a1, K1, xs1, e1, g1, b1, J1, ys1, f1, rfl, hat1, hdig1, hct1, heig1⟩ := open_span (hval 1 29 v1 rfl rfl) h1
  have h2k := h2
  obtain ⟨x2, y2, z2, rfl⟩ := open_arr3 (hval 2 30 v2 rfl rfl) h2
  clear hA0 hval0
  simp only [List.append_nil] at hW'
  have hlt0 : ∀ x ∈ p0, x.block < W.heap.size := fun x hx => by simpa using hW'.lt x (by simp [hx])
  have hlt1 : ∀ x ∈ p1, x.block < W.heap.size := fun x hx => by simpa using hW'.lt x (by simp [hx])
  have hlt2 : ∀ x ∈ p2, x.block < W.heap.size := fun x hx => by simpa using hW'.lt x (by simp [hx])
  refine (spanHolds_any c0 a0 K0 xs0 e0 g0 b0 J0 ys0 f0 c1 a1 K1 xs1 e1 g1 b1 J1 ys1 f1 x2 y2 z2 W (tab_of_laid hL) hat0 hdig0 hct0 heig0 hat1 hdig1 hct1 heig1).mono fun e W' ⟨he, hB⟩ => ?_
  subst he
  have hargs0 : DataW.Trod enc Tryz.prog W' 0 (fun b => decide (b < W.heap.size)) true 29 _ d0 p0 := Below.trod laidOut (by kernel_rfl) (of_decide_eq_true (by kernel_rfl)) h0k hB hlt0
  have hargs1 : DataW.Trod enc Tryz.prog W' 0 (fun b => decide (b < W.heap.size)) true 29 _ d1 p1 := Below.trod laidOut (by kernel_rfl) (of_decide_eq_true (by kernel_rfl)) h1k hB hlt1
  have hargs2 : DataW.Trod enc Tryz.prog W' 0 (fun b => decide (b < W.heap.size)) true 30 _ d2 p2 := Below.trod laidOut (by kernel_rfl) (of_decide_eq_true (by kernel_rfl)) h2k hB hlt2
  exact ⟨_, rfl, ⟨_, _, _, [], _, [], hW', trodAll_mk1 (shut_bool Tryz.underlying4 _), trodAll_mk3 hargs0 hargs1 hargs2, rfl, hB.frame _, fun h => by cases h⟩⟩
theorem spanHolds_holds : Rows.SpanHoldsSaid :=
  OpenClaim.holds_of_wide 3 Tryz.f3 rfl rfl rfl rfl rfl rfl rfl ⟨rfl, rfl, rfl, rfl, rfl⟩ rfl rfl rfl rfl rfl (by kernel_rfl) Tryz.func3 (by kernel_rfl)
    (of_decide_eq_true (by kernel_rfl)) (by unfold Func.isWrapper; first | (rw [if_pos (by decide +kernel)]; kernel_rfl) | (rw [if_neg (by decide +kernel)]; exact ⟨rfl, rfl⟩))
    (fun os started H enc _ => spanHolds_lifted os started H enc)
theorem spanHolds_card : Rows.SpanHoldsCardSaid :=
  Claim7.holds_tied_plain_at .later [] [.data] true Rows.spanHoldsCard.stood.harness Rows.spanHoldsCard.stood.looks
    spanHolds_holds (fun _ h => by cases h) (by kernel_rfl) (fun _ h => by cases h) spanHolds_row_tie rfl ⟨rfl, rfl⟩ (by kernel_rfl) rfl
    (fun f fn hf hfn => by
      obtain rfl : f = 3 := Option.some.inj ((show Tryz.prog.funcNamed "girdle/girdlelaw06.SpanHolds" = some 3 by kernel_rfl).symm.trans hf) |>.symm
      obtain rfl : fn = Tryz.f3 := (Option.some.inj (Tryz.func3.symm.trans hfn)).symm
      exact ⟨by kernel_rfl, fun j t ht => by
        rw [Tryz.params3] at ht
        have hm : t ∈ [29, 29, 30] := by simpa using Array.mem_of_getElem? ht
        have hall : ([29, 29, 30].all fun u => !Tryz.prog.wantsStandIn u) = true := by kernel_rfl
        exact (show Tryz.prog.wantsStandIn t = false by simpa using List.all_eq_true.1 hall t hm)⟩)
    (by kernel_rfl)
end Go.Proofs.YtcdmojefheipoaaGreatDoor
