/-
  What the statement stands on.
-/
import Derived.Test.YtcfgefbkeeedgaaGreatDoorM44
namespace Go.Proofs.YtcfgefbkeeedgaaGreatDoor
open Go.ChangeShapes Go.WideShapes Go.ChangeAt Go.RowKit
set_option maxRecDepth 100000 in
theorem open_digits {H : Type} {enc : TypeId × Value → H} {W : World} {base : Nat} {T : TypeId} (hT : Tryz.prog.underlying T = some (.slice 136)) {v : Value} {d : DataW H} {ps : List MemPlace}
    (hok : Value.okWide Tryz.prog W .any base T v) (h : DataW.Trod enc Tryz.prog W 0 (fun _ => true) true T v d ps) :
    ∃ (p : Option Addr) (K : Nat) (ds : List Nat), v = .slice p ds.length K ∧ At .u32 W p K ds ∧ Dig 4294967296 ds := by
  obtain ⟨fuel, hf⟩ := h
  obtain ⟨a0, len, cap, rfl⟩ := okWide_slice hT hok
  rcases open_ints hT Tryz.underlying136 cellsU hf with ⟨hcs, _⟩ | ⟨a, len', cap', zs, hcs, _, hl, hm, hz, _, hcell, hwz⟩
  · simp [Value.cells] at hcs
    obtain ⟨rfl, rfl, rfl⟩ := hcs
    exact ⟨none, 0, [], rfl, .inl ⟨rfl, fun _ => rfl⟩, fun x hx => by simp at hx⟩
  · simp [Value.cells] at hcs
    obtain ⟨rfl, rfl, rfl⟩ := hcs
    simp only [if_true] at hz
    simp only [Value.okWide, hT, Cell.okWide, Cell.ok] at hok
    obtain ⟨_, _, _, hspot, row, cells, hsh, _⟩ := hok
    obtain ⟨b, off, spot⟩ := a
    simp only at hspot
    subst hspot
    have hb : b < W.heap.size := by
      rcases Nat.lt_or_ge b W.heap.size with h | h
      · exact h
      · simp [World.shape?, Array.getElem?_eq_none h] at hsh
    have hrange : ∀ z ∈ zs, 0 ≤ z ∧ z < 4294967296 := fun z hz => by
      have := bounds_u32 (hwz z hz)
      omega
    refine ⟨_, cap, (zs.take len).map Int.toNat, by simp; omega, .inr ⟨b, off, rfl, by simp; omega, hb, fun j hj => ?_⟩, fun x hx => ?_⟩
    · simp at hj
      have hc := hcell j (by omega)
      have hj' : j < zs.length := by omega
      have hr := hrange zs[j] (List.getElem_mem hj')
      have e : (⟨b, off, none⟩ : Addr).add j = ⟨b, off + j, none⟩ := by unfold Addr.add; split <;> simp_all
      rw [e] at hc
      rw [hc]
      have e2 : dg ((zs.take len).map Int.toNat) j = zs[j].toNat := by
        unfold dg
        rw [List.getElem?_map, List.getElem?_take, if_pos (by omega), List.getElem?_eq_getElem hj']
        rfl
      rw [e2]
      simp [List.getD, List.getElem?_eq_getElem hj']
      omega
    · obtain ⟨z, hz', rfl⟩ := List.mem_map.1 hx
      have := hrange z (List.mem_of_mem_take hz')
      omega
end Go.Proofs.YtcfgefbkeeedgaaGreatDoor
