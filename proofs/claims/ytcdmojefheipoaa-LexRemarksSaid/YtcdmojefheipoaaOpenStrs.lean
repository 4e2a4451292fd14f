/-
  A list of texts, as a row hands it in.
-/
import Derived.Test.YtcdmojefheipoaaOpen
import Derived.SliceStrings
namespace Go.Proofs.Ytcdmojefheipoaa
open Go.ChangeShapes Go.WideShapes Go.ChangeAt Go.RowKit

/-- A list of texts in memory. -/
def Strs (W : World) (v : Value) (xs : List ByteArray) : Prop := (v = .slice none 0 0 ∧ xs = []) ∨ ∃ b off c, v = .slice (some ⟨b, off, none⟩) xs.length c ∧ b < W.heap.size ∧ xs.length ≤ c ∧ c ≤ maxLen ∧ ∀ (j : Nat) x, xs[j]? = some x → W.cell? ⟨b, off + j, none⟩ = some (.string x)
set_option maxRecDepth 100000 in
theorem cellsS : Try.prog.cellsOf 9 = 1 := by kernel_rfl
set_option maxRecDepth 100000 in
theorem open_texts {H : Type} {enc : TypeId × Value → H} {W : World} {base : Nat} {v : Value} {d : DataW H} {ps : List MemPlace}
    (hok : Value.okWide Try.prog W .any base 34 v) (h : DataW.Trod enc Try.prog W 0 (fun _ => true) true 34 v d ps) : ∃ xs : List ByteArray, Strs W v xs ∧ ∀ x ∈ xs, x.size ≤ maxLen := by
  obtain ⟨fuel, hf⟩ := h
  obtain ⟨a0, len, cap, rfl⟩ := okWide_slice Try.underlying34 hok
  rcases open_strings Try.underlying34 Try.underlying9 cellsS hf with ⟨hcs, _⟩ | ⟨a, len', cap', ss, hcs, _, hl, hm, hz, _, hcell, hwz⟩
  · simp [Value.cells] at hcs
    obtain ⟨rfl, rfl, rfl⟩ := hcs
    exact ⟨[], .inl ⟨rfl, rfl⟩, fun x hx => by simp at hx⟩
  · simp [Value.cells] at hcs
    obtain ⟨rfl, rfl, rfl⟩ := hcs
    simp only [if_true] at hz
    simp only [Value.okWide, Try.underlying34, Cell.okWide, Cell.ok] at hok
    obtain ⟨_, _, _, hspot, row, cells, hsh, _⟩ := hok
    obtain ⟨b, off, spot⟩ := a
    simp only at hspot
    subst hspot
    have hb : b < W.heap.size := by
      rcases Nat.lt_or_ge b W.heap.size with h | h
      · exact h
      · simp [World.shape?, Array.getElem?_eq_none h] at hsh
    refine ⟨ss.take len, .inr ⟨b, off, cap, by rw [List.length_take, Nat.min_eq_left (by omega)], hb, by rw [List.length_take]; omega, hm, fun j x hx => ?_⟩, fun x hx => hwz x (List.mem_of_mem_take hx)⟩
    have hj := (List.getElem?_eq_some_iff.1 hx).1
    rw [List.length_take] at hj
    have hc := hcell j (by omega)
    have e : (⟨b, off, none⟩ : Addr).add j = ⟨b, off + j, none⟩ := by unfold Addr.add; split <;> simp_all
    rw [e] at hc
    rw [hc]
    rw [List.getElem?_take, if_pos (by omega)] at hx
    simp [List.getD, hx]

end Go.Proofs.Ytcdmojefheipoaa
