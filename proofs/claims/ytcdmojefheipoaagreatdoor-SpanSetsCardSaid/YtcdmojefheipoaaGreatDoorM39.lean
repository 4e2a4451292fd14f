/-
  What the statement stands on.
-/
import Derived.Test.YtcdmojefheipoaaGreatDoorM38
namespace Go.Proofs.YtcdmojefheipoaaGreatDoor
open Go.ChangeShapes Go.WideShapes Go.ChangeAt Go.RowKit Go.Joins
set_option maxRecDepth 100000 in
theorem dy_cellTypes : Tryz.prog.cellTypes Tryz.prog.depth 27 = some [4, 23, 3] := by kernel_rfl
set_option maxRecDepth 100000 in
theorem open_dyad {H : Type} {enc : TypeId × Value → H} {W : World} {base : Nat} {v : Value} {d : DataW H} {ps : List MemPlace}
    (hok : Value.okWide Tryz.prog W .any base 27 v) (h : DataW.Trod enc Tryz.prog W 0 (fun _ => true) true 27 v d ps) :
    ∃ (b : Bool) (p : Option Addr) (K : Nat) (ds : List Nat) (e : Int), v = .agg #[.bool b, .slice p ds.length K, .int .i64 e] ∧ At .u32 W p K ds ∧ Dig 4294967296 ds := by
  obtain ⟨cs, rfl, hsz⟩ := okWide_struct Tryz.underlying27 hok
  obtain ⟨c0, c1, c2, rfl⟩ := array3 (hsz.trans dy_cells.1)
  obtain ⟨fuel, hf⟩ := h
  obtain ⟨y0, y1, n, _, _, h0, h1⟩ := trod_struct2 Tryz.underlying27 hf
  have h0' : DataW.trod enc Tryz.prog W 0 (fun _ => true) true n 25 [c0, c1] = some y0 := by simpa [Value.cells, dy_cells.2.1] using h0
  have h1' : DataW.trod enc Tryz.prog W 0 (fun _ => true) true n 3 [c2] = some y1 := by simpa [Value.cells, dy_cells.2.2.2.2] using h1
  clear h0 h1
  obtain ⟨z0, z1, m, _, _, g0, g1⟩ := trod_struct2 Tryz.underlying25 h0'
  have g0' : DataW.trod enc Tryz.prog W 0 (fun _ => true) true m 4 [c0] = some z0 := by simpa [Value.cells, dy_cells.2.2.2.1] using g0
  have g1' : DataW.trod enc Tryz.prog W 0 (fun _ => true) true m 23 [c1] = some z1 := by simpa [Value.cells, dy_cells.2.2.1] using g1
  clear g0 g1
  obtain ⟨b, e0, _⟩ := DataW.trod_bool Tryz.underlying4 g0'
  have hv0 : c0 = .bool b := by simpa using e0
  subst hv0
  obtain ⟨e, e2, _⟩ := DataW.trod_int Tryz.underlying3 h1'
  have hv2 : c2 = .int .i64 e := by simpa using e2
  subst hv2
  have hok1 : Value.okWide Tryz.prog W .any base 23 c1 := by
    simp only [Value.okWide, Tryz.underlying27] at hok
    obtain ⟨cs, hcs, _, ts, hts, _, hc⟩ := hok
    cases hcs
    rw [dy_cellTypes] at hts
    cases hts
    obtain ⟨u, hu, hk⟩ := hc 1 c1 rfl
    have : u = 23 := by simpa using hu.symm
    subst this
    simp only [Value.okWide, Tryz.underlying23]
    exact hk
  obtain ⟨a0, len, cap, rfl⟩ := okWide_slice Tryz.underlying23 hok1
  obtain ⟨p, K, ds, e', hat, hd⟩ := open_digits Tryz.underlying23 hok1 ⟨m, (by simpa [Value.cells] using g1')⟩
  exact ⟨b, p, K, ds, e, by rw [e'], hat, hd⟩
end Go.Proofs.YtcdmojefheipoaaGreatDoor
