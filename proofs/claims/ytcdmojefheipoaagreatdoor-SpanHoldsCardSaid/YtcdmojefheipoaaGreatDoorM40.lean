/-
  What the statement stands on.
-/
import Derived.Test.YtcdmojefheipoaaGreatDoorM38
import Derived.Laws.IdiomArrays
namespace Go.Proofs.YtcdmojefheipoaaGreatDoor
open Go.ChangeShapes Go.WideShapes Go.ChangeAt Go.RowKit Go.Joins
set_option maxRecDepth 100000 in
theorem sp_cellTypes : Tryz.prog.cellTypes Tryz.prog.depth 29 = some [4, 23, 3, 4, 23, 3] := by kernel_rfl
set_option maxRecDepth 100000 in
theorem sp_cells : Tryz.prog.cellsOf 29 = 6 := by kernel_rfl
set_option maxRecDepth 100000 in
theorem dy_part {H : Type} {enc : TypeId × Value → H} {W : World} {base n : Nat} {c0 c1 c2 : Value} {y : DataW H × List MemPlace} (hok1 : Value.okWide Tryz.prog W .any base 23 c1)
    (h : DataW.trod enc Tryz.prog W 0 (fun _ => true) true n 27 [c0, c1, c2] = some y) :
    ∃ (b : Bool) (p : Option Addr) (K : Nat) (ds : List Nat) (e : Int), c0 = .bool b ∧ c1 = .slice p ds.length K ∧ c2 = .int .i64 e ∧ At .u32 W p K ds ∧ Dig 4294967296 ds := by
  obtain ⟨y0, y1, n, _, _, h0, h1⟩ := trod_struct2 Tryz.underlying27 h
  have h0' : DataW.trod enc Tryz.prog W 0 (fun _ => true) true n 25 [c0, c1] = some y0 := by simpa [Value.cells, dy_cells.2.1] using h0
  have h1' : DataW.trod enc Tryz.prog W 0 (fun _ => true) true n 3 [c2] = some y1 := by simpa [Value.cells, dy_cells.2.2.2.2] using h1
  clear h0 h1
  obtain ⟨z0, z1, m, _, _, g0, g1⟩ := trod_struct2 Tryz.underlying25 h0'
  have g0' : DataW.trod enc Tryz.prog W 0 (fun _ => true) true m 4 [c0] = some z0 := by simpa [Value.cells, dy_cells.2.2.2.1] using g0
  have g1' : DataW.trod enc Tryz.prog W 0 (fun _ => true) true m 23 [c1] = some z1 := by simpa [Value.cells, dy_cells.2.2.1] using g1
  clear g0 g1
  obtain ⟨b, e0, _⟩ := DataW.trod_bool Tryz.underlying4 g0'
  have hv0 : c0 = .bool b := by simpa using e0
  obtain ⟨e, e2, _⟩ := DataW.trod_int Tryz.underlying3 h1'
  have hv2 : c2 = .int .i64 e := by simpa using e2
  obtain ⟨a0, len, cap, rfl⟩ := okWide_slice Tryz.underlying23 hok1
  obtain ⟨p, K, ds, e', hat, hd⟩ := open_digits Tryz.underlying23 hok1 ⟨m, (by simpa [Value.cells] using g1')⟩
  exact ⟨b, p, K, ds, e, hv0, e', hv2, hat, hd⟩
set_option maxRecDepth 100000 in
theorem open_span {H : Type} {enc : TypeId × Value → H} {W : World} {base : Nat} {v : Value} {d : DataW H} {ps : List MemPlace}
    (hok : Value.okWide Tryz.prog W .any base 29 v) (h : DataW.Trod enc Tryz.prog W 0 (fun _ => true) true 29 v d ps) :
    ∃ (b : Bool) (p : Option Addr) (K : Nat) (ds : List Nat) (e : Int) (c : Bool) (q : Option Addr) (J : Nat) (es : List Nat) (f : Int), v = .agg #[.bool b, .slice p ds.length K, .int .i64 e, .bool c, .slice q es.length J, .int .i64 f] ∧ At .u32 W p K ds ∧ Dig 4294967296 ds ∧ At .u32 W q J es ∧ Dig 4294967296 es := by
  obtain ⟨cs, rfl, hsz⟩ := okWide_struct Tryz.underlying29 hok
  obtain ⟨l, rfl⟩ : ∃ l : List Value, cs = l.toArray := ⟨cs.toList, by simp⟩
  have hl : l.length = 6 := by simpa using hsz.trans sp_cells
  match l, hl with
  | [c0, c1, c2, c3, c4, c5], _ =>
    have hsl : ∀ (j : Nat) (x : Value), [c0, c1, c2, c3, c4, c5][j]? = some x → ([4, 23, 3, 4, 23, 3] : List TypeId)[j]? = some 23 → Value.okWide Tryz.prog W .any base 23 x := by
      intro j x hx ht
      simp only [Value.okWide, Tryz.underlying29] at hok
      obtain ⟨cs, hcs, _, ts, hts, _, hc⟩ := hok
      cases hcs
      rw [sp_cellTypes] at hts
      cases hts
      obtain ⟨u, hu, hk⟩ := hc j x (by simpa using hx)
      have hj : j < 6 := by have := (List.getElem?_eq_some_iff.1 hx).1; simpa using this
      have hu' : ([4, 23, 3, 4, 23, 3] : List TypeId)[j % 6]? = some u := hu
      rw [Nat.mod_eq_of_lt hj] at hu'
      have e9 := hu'.symm.trans ht
      cases e9
      simp only [Value.okWide, Tryz.underlying23]
      exact hk
    obtain ⟨fuel, hf⟩ := h
    obtain ⟨y0, y1, n, _, _, h0, h1⟩ := trod_struct2 Tryz.underlying29 hf
    have h0' : DataW.trod enc Tryz.prog W 0 (fun _ => true) true n 27 [c0, c1, c2] = some y0 := by simpa [Value.cells, dy_cells.1] using h0
    have h1' : DataW.trod enc Tryz.prog W 0 (fun _ => true) true n 27 [c3, c4, c5] = some y1 := by simpa [Value.cells, dy_cells.1] using h1
    obtain ⟨b, p, K, ds, e, rfl, rfl, rfl, a1, a2⟩ := dy_part (hsl 1 c1 rfl rfl) h0'
    obtain ⟨c, q, J, es, f, rfl, rfl, rfl, b1, b2⟩ := dy_part (hsl 4 c4 rfl rfl) h1'
    exact ⟨b, p, K, ds, e, c, q, J, es, f, rfl, a1, a2, b1, b2⟩
end Go.Proofs.YtcdmojefheipoaaGreatDoor
