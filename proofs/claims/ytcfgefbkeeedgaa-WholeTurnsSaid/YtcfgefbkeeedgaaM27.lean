/-
  What the statement stands on.
-/
import Derived.Test.YtcfgefbkeeedgaaM26
import Derived.Laws.IdiomArrays
namespace Go.Proofs.Ytcfgefbkeeedgaa
open Go.ChangeShapes Go.WideShapes Go.ChangeAt Go.RowKit Go.Joins
set_option maxRecDepth 100000 in
theorem arrR_cells : Try.prog.cellsOf 23 = 3 ∧ Try.prog.cellsOf 22 = 1 := by refine ⟨?_, ?_⟩ <;> kernel_rfl
theorem okWide_arrayR {P : Program} {w : World} {r : Reach} {base : Nat} {t e : TypeId} {n : Nat} {v : Value} (ht : P.underlying t = some (.array n e)) (h : Value.okWide P w r base t v) : ∃ cs, v = .agg cs ∧ cs.size = P.cellsOf t := by
  simp only [Value.okWide, ht] at h
  obtain ⟨cs, h1, h2, _⟩ := h
  exact ⟨cs, h1, h2⟩
set_option maxRecDepth 100000 in
theorem open_arrR {H : Type} {enc : TypeId × Value → H} {W : World} {base : Nat} {v : Value} {d : DataW H} {ps : List MemPlace}
    (hok : Value.okWide Try.prog W .any base 23 v) (h : DataW.Trod enc Try.prog W 0 (fun _ => true) true 23 v d ps) :
    ∃ (x y z : Value) (xs ys zs : List RawQ), v = .agg #[x, y, z] ∧ Raws W x xs ∧ Raws W y ys ∧ Raws W z zs := by
  obtain ⟨cs, rfl, hsz⟩ := okWide_arrayR Try.underlying23 hok
  obtain ⟨c0, c1, c2, rfl⟩ := array3 (hsz.trans arrR_cells.1)
  obtain ⟨fuel, hf⟩ := h
  obtain ⟨y0, y1, y2, n, _, h0, h1, h2⟩ := trod_array3 Try.underlying23 arrR_cells.2 (by simpa [Value.cells] using hf)
  obtain ⟨xs, e0⟩ := trod_rats h0
  obtain ⟨ys, e1⟩ := trod_rats h1
  obtain ⟨zs, e2⟩ := trod_rats h2
  exact ⟨c0, c1, c2, xs, ys, zs, rfl, e0, e1, e2⟩
end Go.Proofs.Ytcfgefbkeeedgaa
