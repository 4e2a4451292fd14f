/-
  A whole number's struct, as a row hands it in.
-/
import Derived.Test.YtkokimlgofimmaaGreatDoorM28
import Derived.Lib.SmallJoins

namespace Go.Proofs.YtkokimlgofimmaaGreatDoor
open Go.ChangeShapes Go.WideShapes Go.ChangeAt Go.RowKit Go.Joins

set_option maxRecDepth 100000 in
theorem int_cellTypes : Tryz.prog.cellTypes Tryz.prog.depth 25 = some [4, 23] := by kernel_rfl
set_option maxRecDepth 100000 in
theorem open_whole {H : Type} {enc : TypeId × Value → H} {W : World} {base : Nat} {v : Value} {d : DataW H} {ps : List MemPlace}
    (hok : Value.okWide Tryz.prog W .any base 25 v) (h : DataW.Trod enc Tryz.prog W 0 (fun _ => true) true 25 v d ps) :
    ∃ (b : Bool) (p : Option Addr) (K : Nat) (ds : List Nat), v = .agg #[.bool b, .slice p ds.length K] ∧ At .u32 W p K ds ∧ Dig 4294967296 ds := by
  obtain ⟨v0, v1, y0, y1, n, rfl, _, _, h0, h1⟩ := open_agg2 Tryz.underlying25 (by kernel_rfl) (by kernel_rfl) hok h
  obtain ⟨b, e0, _⟩ := DataW.trod_bool Tryz.underlying4 h0
  have hv0 : v0 = .bool b := by simpa using e0
  subst hv0
  have hok1 : Value.okWide Tryz.prog W .any base 23 v1 := by
    simp only [Value.okWide, Tryz.underlying25] at hok
    obtain ⟨cs, hcs, _, ts, hts, _, hc⟩ := hok
    cases hcs
    rw [int_cellTypes] at hts
    cases hts
    obtain ⟨u, hu, hk⟩ := hc 1 v1 rfl
    have : u = 23 := by simpa using hu.symm
    subst this
    simp only [Value.okWide, Tryz.underlying23]
    exact hk
  obtain ⟨a0, len, cap, rfl⟩ := okWide_slice Tryz.underlying23 hok1
  obtain ⟨p, K, ds, e, hat, hd⟩ := open_digits Tryz.underlying23 hok1 ⟨n, (by simpa [Value.cells] using h1)⟩
  exact ⟨b, p, K, ds, by rw [e], hat, hd⟩

end Go.Proofs.YtkokimlgofimmaaGreatDoor
