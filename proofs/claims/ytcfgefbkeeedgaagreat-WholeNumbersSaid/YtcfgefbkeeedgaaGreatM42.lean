/-
  What the statement stands on.
-/
import Derived.Test.YtcfgefbkeeedgaaGreatM21
import Derived.Test.YtcfgefbkeeedgaaGreatM41
namespace Go.Proofs.YtcfgefbkeeedgaaGreat
open Go.ChangeShapes Go.WideShapes Go.ChangeAt Go.RowKit Go.Joins
set_option maxRecDepth 100000 in
theorem trod_digits {H : Type} {enc : TypeId × Value → H} {W : World} {n : Nat} {c : Value} {x : DataW H × List MemPlace} (h : DataW.trod enc Tryz.prog W 0 (fun _ => true) true n 35 [c] = some x) :
    ∃ (p : Option Addr) (K : Nat) (ds : List Nat), c = .slice p ds.length K ∧ At .u32 W p K ds ∧ Dig 4294967296 ds := by
  rcases open_ints Tryz.underlying35 Tryz.underlying88 cellsU h with ⟨hcs, _⟩ | ⟨a, len, cap, zs, hcs, _, hl, hm, hz, _, hcell, hwz⟩
  · simp at hcs
    exact ⟨none, 0, [], hcs, .inl ⟨rfl, fun _ => rfl⟩, fun x hx => by simp at hx⟩
  · simp at hcs
    subst hcs
    simp only [if_true] at hz
    have hrange : ∀ z ∈ zs, 0 ≤ z ∧ z < 4294967296 := fun z hz => by
      have := bounds_u32 (hwz z hz)
      omega
    have hd : Dig 4294967296 ((zs.take len).map Int.toNat) := fun x hx => by
      obtain ⟨z, hz', rfl⟩ := List.mem_map.1 hx
      have := hrange z (List.mem_of_mem_take hz')
      omega
    have hll : ((zs.take len).map Int.toNat).length = len := by simp; omega
    refine ⟨some a, cap, (zs.take len).map Int.toNat, by rw [hll], ?_, hd⟩
    by_cases h0 : len = 0
    · subst h0
      exact .inl ⟨by simp, fun e => by cases e⟩
    · obtain ⟨b, off, spot⟩ := a
      have hc0 := hcell 0 (by omega)
      have e0 : (⟨b, off, spot⟩ : Addr).add 0 = ⟨b, off, spot⟩ := by unfold Addr.add; simp
      rw [e0] at hc0
      have hs : spot = none := by
        cases spot with
        | none => rfl
        | some s =>
          unfold World.cell? at hc0
          split at hc0 <;> simp at hc0
      subst hs
      have hb := World.block_lt_of_cell? W _ hc0
      refine .inr ⟨b, off, rfl, by rw [hll]; exact hl, hb, fun j hj => ?_⟩
      rw [hll] at hj
      have hc := hcell j (by omega)
      have hj' : j < zs.length := by omega
      have hr := hrange zs[j] (List.getElem_mem hj')
      have e : (⟨b, off, none⟩ : Addr).add j = ⟨b, off + j, none⟩ := by unfold Addr.add; split <;> simp_all
      rw [e] at hc
      rw [hc]
      have e2 : dg ((zs.take len).map Int.toNat) j = zs[j].toNat := by
        unfold dg
        rw [List.getElem?_map, List.getElem?_take, if_pos (by omega), List.getElem?_eq_getElem hj']
        rfl
      rw [e2]
      simp [List.getD, List.getElem?_eq_getElem hj']
      omega
set_option maxRecDepth 100000 in
theorem trod_ratio {H : Type} {enc : TypeId × Value → H} {W : World} {n : Nat} {cs : List Value} {x : DataW H × List MemPlace} (h : DataW.trod enc Tryz.prog W 0 (fun _ => true) true n 39 cs = some x) :
    ∃ y : RawQ, cs = y.cells ∧ y.In W := by
  obtain ⟨y0, y1, n, _, hl, h0, h1⟩ := trod_struct2 Tryz.underlying39 h
  rw [rat_cells.1] at hl
  match cs, hl with
  | [c0, c1, c2], _ =>
  have h0' : DataW.trod enc Tryz.prog W 0 (fun _ => true) true n 37 [c0, c1] = some y0 := by simpa [rat_cells.2.1] using h0
  have h1' : DataW.trod enc Tryz.prog W 0 (fun _ => true) true n 35 [c2] = some y1 := by simpa [rat_cells.2.2.1] using h1
  clear h0 h1
  obtain ⟨z0, z1, m, _, _, g0, g1⟩ := trod_struct2 Tryz.underlying37 h0'
  have g0' : DataW.trod enc Tryz.prog W 0 (fun _ => true) true m 4 [c0] = some z0 := by simpa [rat_cells.2.2.2] using g0
  have g1' : DataW.trod enc Tryz.prog W 0 (fun _ => true) true m 35 [c1] = some z1 := by simpa [rat_cells.2.2.1] using g1
  clear g0 g1
  obtain ⟨b, e0, _⟩ := DataW.trod_bool Tryz.underlying4 g0'
  have hv0 : c0 = .bool b := by simpa using e0
  obtain ⟨p, K, ds, e1, a1, d1⟩ := trod_digits g1'
  obtain ⟨q, J, es, e2, a2, d2⟩ := trod_digits h1'
  exact ⟨⟨b, p, q, K, J, ds, es⟩, by rw [hv0, e1, e2]; rfl, a1, a2, d1, d2⟩
theorem cells3 {w : World} {a : Addr} {cs : List Value} (h : w.cells? 0 a 3 = some cs) : ∃ c0 c1 c2, cs = [c0, c1, c2] ∧ w.cell? (a.add 0) = some c0 ∧ w.cell? (a.add 1) = some c1 ∧ w.cell? (a.add 2) = some c2 := by
  unfold World.cells? at h
  rw [if_pos (Nat.zero_le _)] at h
  simp only [show List.range 3 = [0, 1, 2] from rfl, List.mapM_cons, List.mapM_nil, Option.pure_def, Option.bind_eq_bind, Option.bind_eq_some_iff] at h
  obtain ⟨c0, h0, cs', ⟨c1, h1, cs'', ⟨c2, h2, cs3, h3, h4⟩, h5⟩, h6⟩ := h
  cases h3; cases h4; cases h5; cases h6
  exact ⟨c0, c1, c2, rfl, h0, h1, h2⟩
set_option maxRecDepth 100000 in
theorem trod_rats {H : Type} {enc : TypeId × Value → H} {W : World} {n : Nat} {c : Value} {x : DataW H × List MemPlace} (h : DataW.trod enc Tryz.prog W 0 (fun _ => true) true n 22 [c] = some x) : ∃ xs : List RawQ, Raws W c xs := by
  rcases DataW.trod_slice Tryz.underlying22 h with ⟨hcs, _⟩ | ⟨a, len, cap, elems, rest, m, _, hcs, _, _, hl, hm, hel, hget, _⟩
  · simp at hcs
    subst hcs
    exact ⟨[], none, 0, rfl, fun _ => rfl, Nat.le_refl _, fun j x h => by simp at h⟩
  · simp at hcs
    subst hcs
    rw [rat_cells.1] at hget
    have each : ∀ i, i < len → ∃ y : RawQ, W.cell? ((a.add (i * 3)).add 0) = some (.bool y.b) ∧ W.cell? ((a.add (i * 3)).add 1) = some (.slice y.p y.ds.length y.K) ∧ W.cell? ((a.add (i * 3)).add 2) = some (.slice y.q y.es.length y.J) ∧ y.In W := by
      intro i hi
      have h1 := hget i hi
      rw [List.getElem?_eq_getElem (by omega), Option.bind_eq_some_iff] at h1
      obtain ⟨cs, h2, h3⟩ := h1
      obtain ⟨c0, c1, c2, rfl, a0, a1, a2⟩ := cells3 h2
      obtain ⟨y, h4, h5⟩ := trod_ratio h3
      unfold RawQ.cells at h4
      simp at h4
      obtain ⟨rfl, rfl, rfl⟩ := h4
      exact ⟨y, a0, a1, a2, h5⟩
    have hex : ∃ f : Nat → RawQ, ∀ i, i < len → W.cell? ((a.add (i * 3)).add 0) = some (.bool (f i).b) ∧ W.cell? ((a.add (i * 3)).add 1) = some (.slice (f i).p (f i).ds.length (f i).K) ∧ W.cell? ((a.add (i * 3)).add 2) = some (.slice (f i).q (f i).es.length (f i).J) ∧ (f i).In W :=
      ⟨fun i => if h : i < len then Classical.choose (each i h) else default, fun i hi => by simp only [hi, dif_pos]; exact Classical.choose_spec (each i hi)⟩
    obtain ⟨f, hf⟩ := hex
    refine ⟨(List.range len).map f, some a, cap, by simp, fun e => (by cases e), by simpa using hl, fun j x hx => ?_⟩
    have hj : j < len := by
      have := (List.getElem?_eq_some_iff.1 hx).1
      simpa using this
    have hxf : f j = x := by
      rw [List.getElem?_map, List.getElem?_range hj] at hx
      simpa using hx
    subst hxf
    obtain ⟨b, off, spot⟩ := a
    have hs : spot = none := by
      have h0 := (hf 0 (by omega)).1
      have e0 : ((⟨b, off, spot⟩ : Addr).add (0 * 3)).add 0 = ⟨b, off, spot⟩ := by unfold Addr.add; simp
      rw [e0] at h0
      cases spot with
      | none => rfl
      | some s =>
        unfold World.cell? at h0
        split at h0 <;> simp at h0
    subst hs
    have e : ∀ k, ((⟨b, off, none⟩ : Addr).add (j * 3)).add k = ⟨b, off + j * 3 + k, none⟩ := fun k => by
      unfold Addr.add
      by_cases h1 : j * 3 = 0 <;> by_cases h2 : k = 0 <;> simp [h1, h2]
    obtain ⟨k0, k1, k2, k3⟩ := hf j hj
    rw [e] at k0 k1 k2
    exact ⟨b, off, rfl, World.block_lt_of_cell? W _ k0, k0, k1, k2, k3⟩
set_option maxRecDepth 100000 in
theorem open_rats {H : Type} {enc : TypeId × Value → H} {W : World} {base : Nat} {v : Value} {d : DataW H} {ps : List MemPlace}
    (hok : Value.okWide Tryz.prog W .any base 22 v) (h : DataW.Trod enc Tryz.prog W 0 (fun _ => true) true 22 v d ps) : ∃ xs : List RawQ, Raws W v xs := by
  obtain ⟨fuel, hf⟩ := h
  obtain ⟨a0, len, cap, rfl⟩ := okWide_slice Tryz.underlying22 hok
  exact trod_rats (by simpa [Value.cells] using hf)
end Go.Proofs.YtcfgefbkeeedgaaGreat
