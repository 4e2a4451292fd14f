/-
  What the statement stands on.
-/
import Derived.Test.YtcfgefbkeeedgaaGreatDoorM45
import Derived.Test.YtcfgefbkeeedgaaGreatDoorM47
namespace Go.Proofs.YtcfgefbkeeedgaaGreatDoor
open Go.ChangeShapes Go.WideShapes Go.ChangeAt Go.RowKit Go.Joins
set_option maxRecDepth 100000 in
theorem rat_cellTypes : Tryz.prog.cellTypes Tryz.prog.depth 34 = some [4, 23, 23] := by kernel_rfl
set_option maxRecDepth 100000 in
theorem open_ratio {H : Type} {enc : TypeId × Value → H} {W : World} {base : Nat} {v : Value} {d : DataW H} {ps : List MemPlace}
    (hok : Value.okWide Tryz.prog W .any base 34 v) (h : DataW.Trod enc Tryz.prog W 0 (fun _ => true) true 34 v d ps) :
    ∃ (b : Bool) (p q : Option Addr) (K J : Nat) (ds es : List Nat), v = .agg #[.bool b, .slice p ds.length K, .slice q es.length J] ∧ At .u32 W p K ds ∧ At .u32 W q J es ∧ Dig 4294967296 ds ∧ Dig 4294967296 es := by
  obtain ⟨cs, rfl, hsz⟩ := okWide_struct Tryz.underlying34 hok
  obtain ⟨c0, c1, c2, rfl⟩ := array3 (hsz.trans rat_cells.1)
  obtain ⟨fuel, hf⟩ := h
  obtain ⟨y0, y1, n, _, _, h0, h1⟩ := trod_struct2 Tryz.underlying34 hf
  have h0' : DataW.trod enc Tryz.prog W 0 (fun _ => true) true n 25 [c0, c1] = some y0 := by simpa [Value.cells, rat_cells.2.1] using h0
  have h1' : DataW.trod enc Tryz.prog W 0 (fun _ => true) true n 23 [c2] = some y1 := by simpa [Value.cells, rat_cells.2.2.1] using h1
  clear h0 h1
  obtain ⟨z0, z1, m, _, _, g0, g1⟩ := trod_struct2 Tryz.underlying25 h0'
  have g0' : DataW.trod enc Tryz.prog W 0 (fun _ => true) true m 4 [c0] = some z0 := by simpa [Value.cells, rat_cells.2.2.2] using g0
  have g1' : DataW.trod enc Tryz.prog W 0 (fun _ => true) true m 23 [c1] = some z1 := by simpa [Value.cells, rat_cells.2.2.1] using g1
  clear g0 g1
  obtain ⟨b, e0, _⟩ := DataW.trod_bool Tryz.underlying4 g0'
  have hv0 : c0 = .bool b := by simpa using e0
  subst hv0
  have hok12 : Value.okWide Tryz.prog W .any base 23 c1 ∧ Value.okWide Tryz.prog W .any base 23 c2 := by
    simp only [Value.okWide, Tryz.underlying34] at hok
    obtain ⟨cs, hcs, _, ts, hts, _, hc⟩ := hok
    cases hcs
    rw [rat_cellTypes] at hts
    cases hts
    constructor
    · obtain ⟨u, hu, hk⟩ := hc 1 c1 rfl
      have : u = 23 := by simpa using hu.symm
      subst this
      simp only [Value.okWide, Tryz.underlying23]
      exact hk
    · obtain ⟨u, hu, hk⟩ := hc 2 c2 rfl
      have : u = 23 := by simpa using hu.symm
      subst this
      simp only [Value.okWide, Tryz.underlying23]
      exact hk
  obtain ⟨hok1, hok2⟩ := hok12
  obtain ⟨a0, len, cap, rfl⟩ := okWide_slice Tryz.underlying23 hok1
  obtain ⟨a1, len1, cap1, rfl⟩ := okWide_slice Tryz.underlying23 hok2
  obtain ⟨p, K, ds, e, hat, hd⟩ := open_digits Tryz.underlying23 hok1 ⟨m, (by simpa [Value.cells] using g1')⟩
  obtain ⟨q, J, es, e', hat', hd'⟩ := open_digits Tryz.underlying23 hok2 ⟨n, (by simpa [Value.cells] using h1')⟩
  exact ⟨b, p, q, K, J, ds, es, by rw [e, e'], hat, hat', hd, hd'⟩
end Go.Proofs.YtcfgefbkeeedgaaGreatDoor
