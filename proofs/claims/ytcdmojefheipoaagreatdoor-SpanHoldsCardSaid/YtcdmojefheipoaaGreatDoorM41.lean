/-
  What the statement stands on.
-/
import Derived.Test.YtcdmojefheipoaaGreatDoorM36
import Derived.Lib.SmallJoins
import Derived.Laws.IdiomArrays
namespace Go.Proofs.YtcdmojefheipoaaGreatDoor
open Go.ChangeShapes Go.WideShapes Go.ChangeAt Go.RowKit Go.Joins
set_option maxRecDepth 100000 in
theorem arr3_cells : Tryz.prog.cellsOf 30 = 3 ∧ Tryz.prog.cellsOf 3 = 1 := by refine ⟨?_, ?_⟩ <;> kernel_rfl
theorem okWide_array {P : Program} {w : World} {r : Reach} {base : Nat} {t e : TypeId} {n : Nat} {v : Value} (ht : P.underlying t = some (.array n e)) (h : Value.okWide P w r base t v) : ∃ cs, v = .agg cs ∧ cs.size = P.cellsOf t := by
  simp only [Value.okWide, ht] at h
  obtain ⟨cs, h1, h2, _⟩ := h
  exact ⟨cs, h1, h2⟩
set_option maxRecDepth 100000 in
theorem open_arr3 {H : Type} {enc : TypeId × Value → H} {W : World} {base : Nat} {v : Value} {d : DataW H} {ps : List MemPlace}
    (hok : Value.okWide Tryz.prog W .any base 30 v) (h : DataW.Trod enc Tryz.prog W 0 (fun _ => true) true 30 v d ps) :
    ∃ x y z : Int, v = .agg #[.int .i64 x, .int .i64 y, .int .i64 z] := by
  obtain ⟨cs, rfl, hsz⟩ := okWide_array Tryz.underlying30 hok
  obtain ⟨c0, c1, c2, rfl⟩ := array3 (hsz.trans arr3_cells.1)
  obtain ⟨fuel, hf⟩ := h
  obtain ⟨y0, y1, y2, n, _, h0, h1, h2⟩ := trod_array3 Tryz.underlying30 arr3_cells.2 (by simpa [Value.cells] using hf)
  obtain ⟨x, e0, _⟩ := DataW.trod_int Tryz.underlying3 h0
  obtain ⟨y, e1, _⟩ := DataW.trod_int Tryz.underlying3 h1
  obtain ⟨z, e2, _⟩ := DataW.trod_int Tryz.underlying3 h2
  have e0 : c0 = .int .i64 x := by simpa using e0
  have e1 : c1 = .int .i64 y := by simpa using e1
  have e2 : c2 = .int .i64 z := by simpa using e2
  subst e0 e1 e2
  exact ⟨x, y, z, rfl⟩
end Go.Proofs.YtcdmojefheipoaaGreatDoor
