/-
  What the statement stands on.
-/
import Derived.Test.YtcfgefbkeeedgaaGreatM22
import Derived.Test.YtcfgefbkeeedgaaGreatM42
namespace Go.Proofs.YtcfgefbkeeedgaaGreat
open Go.ChangeShapes Go.WideShapes Go.ChangeAt Go.RowKit Go.Joins
set_option maxRecDepth 100000 in
theorem zono_cells : Tryz.prog.cellsOf 25 = 2 ∧ Tryz.prog.cellsOf 22 = 1 ∧ Tryz.prog.cellsOf 23 = 1 := by refine ⟨?_, ?_, ?_⟩ <;> kernel_rfl
theorem cells1 {w : World} {a : Addr} {cs : List Value} (h : w.cells? 0 a 1 = some cs) : ∃ c0, cs = [c0] ∧ w.cell? (a.add 0) = some c0 := by
  unfold World.cells? at h
  rw [if_pos (Nat.zero_le _)] at h
  simp only [show List.range 1 = [0] from rfl, List.mapM_cons, List.mapM_nil, Option.pure_def, Option.bind_eq_bind, Option.bind_eq_some_iff] at h
  obtain ⟨c0, h0, cs', h3, h4⟩ := h
  cases h3; cases h4
  exact ⟨c0, rfl, h0⟩
set_option maxRecDepth 100000 in
theorem trod_tab {H : Type} {enc : TypeId × Value → H} {W : World} {n : Nat} {c : Value} {x : DataW H × List MemPlace} (h : DataW.trod enc Tryz.prog W 0 (fun _ => true) true n 23 [c] = some x) : ∃ xss : List (List RawQ), RTab W c xss := by
  rcases DataW.trod_slice Tryz.underlying23 h with ⟨hcs, _⟩ | ⟨a, len, cap, elems, rest, m, _, hcs, _, _, hl, hm, hel, hget, _⟩
  · simp at hcs
    subst hcs
    exact ⟨[], none, 0, rfl, fun _ => rfl, Nat.le_refl _, fun j x h => by simp at h⟩
  · simp at hcs
    subst hcs
    rw [zono_cells.2.1] at hget
    have each : ∀ i, i < len → ∃ y : Value × List RawQ, W.cell? ((a.add (i * 1)).add 0) = some y.1 ∧ Raws W y.1 y.2 := by
      intro i hi
      have h1 := hget i hi
      rw [List.getElem?_eq_getElem (by omega), Option.bind_eq_some_iff] at h1
      obtain ⟨cs, h2, h3⟩ := h1
      obtain ⟨c0, rfl, a0⟩ := cells1 h2
      obtain ⟨xs, h4⟩ := trod_rats h3
      exact ⟨(c0, xs), a0, h4⟩
    obtain ⟨L, hL, hf⟩ := list_of (P := fun i (y : Value × List RawQ) => W.cell? ((a.add (i * 1)).add 0) = some y.1 ∧ Raws W y.1 y.2) len each
    refine ⟨L.map (·.2), some a, cap, by simp [hL], fun e => (by cases e), by simpa [hL] using hl, fun j xs hx => ?_⟩
    rw [List.getElem?_map] at hx
    cases e : L[j]? with
    | none => rw [e] at hx; cases hx
    | some y =>
      rw [e] at hx
      obtain rfl : y.2 = xs := by simpa using hx
      have hj : j < len := by rw [← hL]; exact (List.getElem?_eq_some_iff.1 e).1
      obtain ⟨b, off, spot⟩ := a
      have hs : spot = none := by
        obtain ⟨y0, e0⟩ : ∃ y0, L[0]? = some y0 := ⟨L[0]'(by omega), List.getElem?_eq_getElem _⟩
        have h0 := (hf 0 y0 e0).1
        have e0 : ((⟨b, off, spot⟩ : Addr).add (0 * 1)).add 0 = ⟨b, off, spot⟩ := by unfold Addr.add; simp
        rw [e0] at h0
        cases spot with
        | none => rfl
        | some s =>
          unfold World.cell? at h0
          split at h0 <;> simp at h0
      subst hs
      have e2 : ((⟨b, off, none⟩ : Addr).add (j * 1)).add 0 = ⟨b, off + j, none⟩ := by
        unfold Addr.add
        by_cases h1 : j * 1 = 0 <;> simp_all
      obtain ⟨k0, k1⟩ := hf j y e
      rw [e2] at k0
      exact ⟨b, off, y.1, rfl, World.block_lt_of_cell? W _ k0, k0, k1⟩
set_option maxRecDepth 100000 in
theorem open_zono {H : Type} {enc : TypeId × Value → H} {W : World} {base : Nat} {v : Value} {d : DataW H} {ps : List MemPlace}
    (hok : Value.okWide Tryz.prog W .any base 25 v) (h : DataW.Trod enc Tryz.prog W 0 (fun _ => true) true 25 v d ps) :
    ∃ (c g : Value) (xs : List RawQ) (xss : List (List RawQ)), v = .agg #[c, g] ∧ Raws W c xs ∧ RTab W g xss := by
  obtain ⟨cs, rfl, hsz⟩ := okWide_struct Tryz.underlying25 hok
  obtain ⟨l, rfl⟩ : ∃ l : List Value, cs = l.toArray := ⟨cs.toList, by simp⟩
  have hl : l.length = 2 := by simpa using hsz.trans zono_cells.1
  match l, hl with
  | [c0, c1], _ =>
    obtain ⟨fuel, hf⟩ := h
    obtain ⟨y0, y1, n, _, _, h0, h1⟩ := trod_struct2 Tryz.underlying25 hf
    have h0' : DataW.trod enc Tryz.prog W 0 (fun _ => true) true n 22 [c0] = some y0 := by simpa [Value.cells, zono_cells.2.1] using h0
    have h1' : DataW.trod enc Tryz.prog W 0 (fun _ => true) true n 23 [c1] = some y1 := by simpa [Value.cells, zono_cells.2.1, zono_cells.2.2] using h1
    obtain ⟨xs, e0⟩ := trod_rats h0'
    obtain ⟨xss, e1⟩ := trod_tab h1'
    exact ⟨c0, c1, xs, xss, rfl, e0, e1⟩
end Go.Proofs.YtcfgefbkeeedgaaGreat
