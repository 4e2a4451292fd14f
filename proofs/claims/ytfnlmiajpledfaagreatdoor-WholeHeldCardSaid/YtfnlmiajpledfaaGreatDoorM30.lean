/-
  THE ROW AND THE TIED CARD of girdletop.WholeHeld.
-/
import Derived.Test.YtfnlmiajpledfaaGreatDoorM25
import Derived.Test.YtfnlmiajpledfaaGreatDoorM27
import Derived.Test.YtfnlmiajpledfaaGreatDoorM29
import Derived.Test.YtfnlmiajpledfaaGreatDoorTie
import Derived.Test.YtfnlmiajpledfaaGreatDoorCards
namespace Go.Proofs.YtfnlmiajpledfaaGreatDoor
open Go.ChangeShapes Go.WideShapes Go.ChangeAt Go.RowKit
set_option maxRecDepth 100000 in
theorem wholeHeld_lifted (os : Os) (started : os.Started) (H : Type) (enc : TypeId × Value → H) :
    ReturnsInHanded {} Tryz.checked os 15 .any (fun w args => (Rows.wholeHeldSpec.pre enc Tryz.prog Tryz.f15 [] false w args ∧ laidMetH Tryz.prog tabLaid w) ∧ sizedMet enc Tryz.prog Tryz.f15 (OpenSpec.ofChange Rows.wholeHeldSpec) false w args)
      (Rows.wholeHeldSpec.post enc Tryz.prog Tryz.f15 false true false false) := by
  refine returnsInHanded_of_change_and (C := Tryz.checked) (X := fun w _ => laidMetH Tryz.prog tabLaid w) (fun _ _ _ hh h => h.of_heap hh) own started (by kernel_rfl) Tryz.func15
    (ChangeSpec.witness_shaped (enc := enc) (C := Tryz.checked) (os := os) (X := fun w _ => laidMetH Tryz.prog tabLaid w) false (World.doorLaid Tryz.prog 400 os) #[.agg #[.bool false, .slice none 0 0, .slice none 0 0], .slice none 0 0, .int .i64 0] 8 rfl (World.shaped_of_RefB (by kernel_rfl) (by kernel_rfl)) (by kernel_rfl) (by kernel_rfl) (by kernel_rfl) (door_met os _)) ?_
  intro W base args ds gs before hval0 hW _ _ hL _
  have hval : ∀ (j : Nat) t v, Tryz.f15.params[j]? = some t → args[j]? = some v → Value.okWide Tryz.prog W .any base t v := hval0
  have hW' := hW
  obtain ⟨p, q, hA0, hV, rfl, hfz, hnd⟩ := hW
  have hA : DataW.TrodAll enc Tryz.prog W 0 (fun _ => true) true Tryz.f15.params.toList args.toList ds p := hA0
  rw [Tryz.params15] at hA hval
  obtain ⟨v0, v1, v2, d0, d1, d2, p0, p1, p2, rfl, rfl, rfl, h0, h1, h2⟩ := trodAll_three hA
  obtain ⟨rfl, rfl⟩ := trodVars_none hV
  have h0k := h0
  obtain ⟨c0, a0, b0, K0, J0, xs0, ys0, rfl, hat0, hct0, hdig0, heig0⟩ := open_ratio (hval 0 34 v0 rfl rfl) h0
  have h1k := h1
  obtain ⟨xs1, hR1⟩ := open_rats (hval 1 55 v1 rfl rfl) h1
  obtain ⟨n2, rfl, rfl, rfl, w2⟩ := open_int Tryz.underlying3 (hval 2 3 v2 rfl rfl) h2
  have b2 := bounds_i64 w2
  clear hA0 hval0
  simp only [List.append_nil] at hW'
  have hlt0 : ∀ x ∈ p0, x.block < W.heap.size := fun x hx => by simpa using hW'.lt x (by simp [hx])
  have hlt1 : ∀ x ∈ p1, x.block < W.heap.size := fun x hx => by simpa using hW'.lt x (by simp [hx])
  refine (wholeHeld_any c0 a0 b0 K0 J0 xs0 ys0 v1 xs1 n2 W (tab_of_laid hL) hat0 hct0 hdig0 heig0 hR1 b2.1 b2.2).mono fun e W' ⟨he, hB⟩ => ?_
  subst he
  have hargs0 : DataW.Trod enc Tryz.prog W' 0 (fun b => decide (b < W.heap.size)) true 34 _ d0 p0 := Below.trod laidOut (by kernel_rfl) (of_decide_eq_true (by kernel_rfl)) h0k hB hlt0
  have hargs1 : DataW.Trod enc Tryz.prog W' 0 (fun b => decide (b < W.heap.size)) true 55 _ d1 p1 := Below.trod laidOut (by kernel_rfl) (of_decide_eq_true (by kernel_rfl)) h1k hB hlt1
  exact ⟨_, rfl, ⟨_, _, _, [], _, [], hW', trodAll_mk1 (shut_bool Tryz.underlying4 _), trodAll_mk3 hargs0 hargs1 (shut_int Tryz.underlying3 w2), rfl, hB.frame _, fun h => by cases h⟩⟩
theorem wholeHeld_holds : Rows.WholeHeldSaid :=
  OpenClaim.holds_of_wide 15 Tryz.f15 rfl rfl rfl rfl rfl rfl rfl ⟨rfl, rfl, rfl, rfl, rfl⟩ rfl rfl rfl rfl rfl (by kernel_rfl) Tryz.func15 (by kernel_rfl)
    (of_decide_eq_true (by kernel_rfl)) (by unfold Func.isWrapper; first | (rw [if_pos (by decide +kernel)]; kernel_rfl) | (rw [if_neg (by decide +kernel)]; exact ⟨rfl, rfl⟩))
    (fun os started H enc _ => wholeHeld_lifted os started H enc)
theorem wholeHeld_card : Rows.WholeHeldCardSaid :=
  Claim7.holds_tied_plain_at .later [] [.data] true Rows.wholeHeldCard.stood.harness Rows.wholeHeldCard.stood.looks
    wholeHeld_holds (fun _ h => by cases h) (by kernel_rfl) (fun _ h => by cases h) wholeHeld_row_tie rfl ⟨rfl, rfl⟩ (by kernel_rfl) rfl
    (fun f fn hf hfn => by
      obtain rfl : f = 15 := Option.some.inj ((show Tryz.prog.funcNamed "girdle/girdletop.WholeHeld" = some 15 by kernel_rfl).symm.trans hf) |>.symm
      obtain rfl : fn = Tryz.f15 := (Option.some.inj (Tryz.func15.symm.trans hfn)).symm
      exact ⟨by kernel_rfl, fun j t ht => by
        rw [Tryz.params15] at ht
        have hm : t ∈ [34, 55, 3] := by simpa using Array.mem_of_getElem? ht
        have hall : ([34, 55, 3].all fun u => !Tryz.prog.wantsStandIn u) = true := by kernel_rfl
        exact (show Tryz.prog.wantsStandIn t = false by simpa using List.all_eq_true.1 hall t hm)⟩)
    (by kernel_rfl)
end Go.Proofs.YtfnlmiajpledfaaGreatDoor
