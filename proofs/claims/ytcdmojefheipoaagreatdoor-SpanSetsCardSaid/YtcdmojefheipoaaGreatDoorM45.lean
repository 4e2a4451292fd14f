/-
  What the statement stands on.
-/
import Derived.Test.YtcdmojefheipoaaGreatDoorM39
import Derived.SizedLaws
namespace Go.Proofs.YtcdmojefheipoaaGreatDoor
open Go.ChangeShapes Go.WideShapes Go.ChangeAt Go.RowKit Go.Joins
set_option maxRecDepth 100000 in
theorem u32_bytes : Tryz.prog.bytesOf 139 = 4 := by kernel_rfl
theorem lits_len {H : Type} {k : IntKind} (l : List Int) : (lits (H := H) k l).length = l.length := by simp [lits]
set_option maxRecDepth 100000 in
theorem dyad_size {H : Type} {enc : TypeId × Value → H} {W : World} {d : DataW H} {ps : List MemPlace} {b : Bool} {p : Option Addr} {l K : Nat} {e : Int}
    (h : DataW.Trod enc Tryz.prog W 0 (fun _ => true) true 27 (.agg #[.bool b, .slice p l K, .int .i64 e]) d ps) (hw : ∀ n ∈ d.weights Tryz.prog 27, n ≤ reachBytes) : l * 4 ≤ 140737488355328 := by
  obtain ⟨fuel, hf⟩ := h
  obtain ⟨y0, y1, n, hd, _, h0, _⟩ := trod_struct2 Tryz.underlying27 hf
  have h0' : DataW.trod enc Tryz.prog W 0 (fun _ => true) true n 25 [.bool b, .slice p l K] = some y0 := by simpa [Value.cells, dy_cells.2.1] using h0
  obtain ⟨z0, z1, m, hz, _, _, g1⟩ := trod_struct2 Tryz.underlying25 h0'
  have g1' : DataW.trod enc Tryz.prog W 0 (fun _ => true) true m 23 [.slice p l K] = some z1 := by simpa [Value.cells, dy_cells.2.2.1] using g1
  have hd1 : d = .agg [y0.1, y1.1] := by injection hd
  subst hd1
  have w1 : ∀ n ∈ z1.1.weights Tryz.prog 23, n ≤ reachBytes := fun n hn => hw n (by
    have a1 : n ∈ y0.1.weights Tryz.prog 25 := by
      rw [hz]
      simp only [DataW.weights, Tryz.underlying25, DataW.weightsEach, List.mem_append, List.map_cons, List.map_nil]
      exact .inr (.inl hn)
    simp only [DataW.weights, Tryz.underlying27, DataW.weightsEach, List.mem_append, List.map_cons, List.map_nil]
    exact .inl a1)
  rcases open_ints Tryz.underlying23 Tryz.underlying139 cellsU g1' with ⟨hcs, _⟩ | ⟨a, len', cap', zs, hcs, _, _, _, hz2, hx, _⟩
  · simp at hcs
    obtain ⟨_, rfl, _⟩ := hcs
    omega
  · simp at hcs
    obtain ⟨_, rfl, rfl⟩ := hcs
    have := w1 ((lits (H := H) .u32 (zs.take l)).length * 4 + (lits (H := H) .u32 (zs.drop l)).length * 4) (by
      rw [hx]
      simp only [DataW.weights, Tryz.underlying23, List.mem_cons, u32_bytes]
      exact .inl (Nat.add_mul ..).symm)
    rw [lits_len, lits_len, List.length_take, List.length_drop] at this
    have hr := reachBytes_lt
    simp only [if_true] at hz2
    omega
end Go.Proofs.YtcdmojefheipoaaGreatDoor
