/-
  What the statement stands on.
-/
import Derived.Test.YtcfgefbkeeedgaaGreatM03
import Derived.Laws.CopyOwn
import Derived.Deep.DeepCutAuto
import Derived.Deep.Draws
namespace Go.Proofs.YtcfgefbkeeedgaaGreat
open Go.RowKit
def cellsOf (q : IntKind) (ds : List Nat) : List Value := ds.map fun (d : Nat) => Value.int q (d : Int)
theorem cellsOf_length (q : IntKind) (ds : List Nat) : (cellsOf q ds).length = ds.length := by simp [cellsOf]
theorem cellsOf_get (q : IntKind) (ds : List Nat) (j : Nat) (h : j < ds.length) : (cellsOf q ds)[j]? = some (.int q (dg ds j : Nat)) := by simp [cellsOf, dg_lt h, h]
theorem cellsOf_set (q : IntKind) (ds : List Nat) (j x : Nat) : cellsOf q (ds.set j x) = (cellsOf q ds).set j (.int q x) := by simp [cellsOf, List.map_set]
def Row (q : IntKind) (t : TypeId) (w : World) (g : Nat) (ds : List Nat) : Prop := w.heap[g]? = some (.cells (cellsOf q ds).toArray t (0, 0))
section
variable {q : IntKind} {t : TypeId} {w w' : World} {g : Nat} {ds : List Nat}
theorem Row.lt (h : Row q t w g ds) : g < w.heap.size := (Array.getElem?_eq_some_iff.1 h).1
theorem Row.cell (h : Row q t w g ds) {j : Nat} (hj : j < ds.length) : w.cell? ⟨g, j, none⟩ = some (.int q (dg ds j : Nat)) := by
  rw [cell_of_row w g j _ t (0, 0) h]
  simp [cellsOf_get q ds j hj]
theorem Row.free (h : Row q t w g ds) (j : Nat) : w.frozen? ⟨g, j, none⟩ = false := by
  have h' : w.heap[g]? = some (.cells (cellsOf q ds).toArray t (0, 0)) := h
  simp [World.frozen?, h']
theorem Row.set (h : Row q t w g ds) (j x : Nat) (_hj : j < ds.length) : Row q t (w.setCell ⟨g, j, none⟩ (.int q x)) g (ds.set j x) := by
  have h' : w.heap[g]? = some (.cells (cellsOf q ds).toArray t (0, 0)) := h
  have hlt := h.lt
  have hg : w.heap[g] = .cells (cellsOf q ds).toArray t (0, 0) := by simpa [Array.getElem?_eq_getElem hlt] using h'
  unfold Row World.setCell
  rw [cellsOf_set]
  simp only [Array.getElem?_modify, if_true, h', Option.map_some]
  simp
theorem Row.keep (h : Row q t w g ds) (hb : w'.heap[g]? = w.heap[g]?) : Row q t w' g ds := hb.trans h
theorem Row.below {B : Nat} (h : Row q t w g ds) (hb : Below B w w') (hg : g < B) : Row q t w' g ds := h.keep (hb.block g hg)
theorem Row.at (h : Row q t w g ds) (off n cap : Nat) (hc : n ≤ cap) (hn : off + n ≤ ds.length) : At q w (some ⟨g, off, none⟩) cap ((ds.drop off).take n) := by
  have hl : ((ds.drop off).take n).length = n := by simp; omega
  refine .inr ⟨g, off, rfl, by omega, h.lt, fun j hj => ?_⟩
  rw [hl] at hj
  rw [dg_take _ hj, dg_drop]
  exact h.cell (by omega)
theorem Row.nums (h : Row q t w g ds) (off n cap : Nat) (hc : n ≤ cap) (hn : off + n ≤ ds.length) : Nums q w (.slice (some ⟨g, off, none⟩) n cap) ((ds.drop off).take n) :=
  ⟨_, cap, by rw [show ((ds.drop off).take n).length = n by simp; omega], h.at off n cap hc hn⟩
theorem Row.all (h : Row q t w g ds) (cap : Nat) (hc : ds.length ≤ cap) : Nums q w (.slice (some ⟨g, 0, none⟩) ds.length cap) ds := by
  have := h.nums 0 ds.length cap hc (by omega)
  simpa using this
end
structure Only (g : Nat) (w w' : World) : Prop where
  os : w'.os = w.os
  tape : w'.tape = w.tape
  output : w'.output = w.output
  size : w.heap.size ≤ w'.heap.size
  block : ∀ k, k < w.heap.size → k ≠ g → w'.heap[k]? = w.heap[k]?
theorem Only.refl (g : Nat) (w : World) : Only g w w := ⟨rfl, rfl, rfl, Nat.le_refl _, fun _ _ _ => rfl⟩
theorem Only.trans {g : Nat} {a b c : World} (h : Only g a b) (k : Only g b c) : Only g a c :=
  ⟨k.os.trans h.os, k.tape.trans h.tape, k.output.trans h.output, Nat.le_trans h.size k.size, fun i hi hn => (k.block i (Nat.lt_of_lt_of_le hi h.size) hn).trans (h.block i hi hn)⟩
theorem Only.set {g : Nat} {a w : World} (h : Only g a w) (j : Nat) (u : Value) : Only g a (w.setCell ⟨g, j, none⟩ u) :=
  h.trans ⟨rfl, rfl, rfl, by simp, fun k _ hn => Below.heap_setCell _ _ _ _ hn⟩
theorem Only.drewN {g : Nat} {a w : World} (h : Only g a w) (n : Nat) : Only g a (w.drewN n) := ⟨h.os, h.tape, h.output, h.size, h.block⟩
theorem Only.below {g B : Nat} {w0 w w' : World} (h : Only g w w') (hb : Below B w0 w) (hg : B ≤ g) (hB : B ≤ w.heap.size) : Below B w0 w' :=
  ⟨h.os.trans hb.os, h.tape.trans hb.tape, h.output.trans hb.output, Nat.le_trans hb.size h.size, fun k hk => (h.block k (by omega) (by omega)).trans (hb.block k hk)⟩
theorem Only.cell {g : Nat} {w w' : World} (h : Only g w w') {a : Addr} (hs : a.block < w.heap.size) (hn : a.block ≠ g) : w'.cell? a = w.cell? a := World.cell?_of_block (h.block a.block hs hn)
theorem Only.of_below {g : Nat} {w w' : World} (h : Below w.heap.size w w') : Only g w w' := ⟨h.os, h.tape, h.output, h.size, fun k hk _ => h.block k hk⟩
theorem At.only {q : IntKind} {g : Nat} {w w' : World} {p : Option Addr} {cap : Nat} {ds : List Nat} (h : At q w p cap ds) (ho : Only g w w') (hp : ∀ a, p = some a → ds ≠ [] → a.block ≠ g) : At q w' p cap ds := by
  rcases h with h | ⟨b, off, rfl, h1, h2, h3⟩
  · exact .inl h
  · exact .inr ⟨b, off, rfl, h1, Nat.lt_of_lt_of_le h2 ho.size, fun j hj => (ho.cell (a := ⟨b, off + j, none⟩) h2 (hp ⟨b, off, none⟩ rfl (fun e => by subst e; simp at hj))).trans (h3 j hj)⟩
structure Turns (S : Nat → Prop) (w w' : World) : Prop where
  os : w'.os = w.os
  tape : w'.tape = w.tape
  output : w'.output = w.output
  size : w.heap.size ≤ w'.heap.size
  block : ∀ k, k < w.heap.size → ¬ S k → w'.heap[k]? = w.heap[k]?
theorem Turns.refl (S : Nat → Prop) (w : World) : Turns S w w := ⟨rfl, rfl, rfl, Nat.le_refl _, fun _ _ _ => rfl⟩
theorem Turns.trans {S : Nat → Prop} {a b c : World} (h : Turns S a b) (k : Turns S b c) : Turns S a c :=
  ⟨k.os.trans h.os, k.tape.trans h.tape, k.output.trans h.output, Nat.le_trans h.size k.size, fun i hi hn => (k.block i (Nat.lt_of_lt_of_le hi h.size) hn).trans (h.block i hi hn)⟩
theorem Turns.set {S : Nat → Prop} {a w : World} (h : Turns S a w) {p : Addr} (hp : S p.block) (u : Value) : Turns S a (w.setCell p u) :=
  h.trans ⟨rfl, rfl, rfl, by simp, fun k _ hn => Below.heap_setCell _ _ _ _ (fun e => hn (e ▸ hp))⟩
theorem Turns.drewN {S : Nat → Prop} {a w : World} (h : Turns S a w) (n : Nat) : Turns S a (w.drewN n) := ⟨h.os, h.tape, h.output, h.size, h.block⟩
theorem Turns.drew {S : Nat → Prop} {a w : World} (h : Turns S a w) : Turns S a w.drew := ⟨h.os, h.tape, h.output, h.size, h.block⟩
theorem Turns.grown {S : Nat → Prop} {a w w' : World} {row : Option Nat} (h : Turns S a w) (hg : w.grownBy w' row) (hr : ∀ r, row = some r → a.heap.size ≤ r) : Turns S a w' :=
  ⟨hg.os.trans h.os, hg.tape.trans h.tape, hg.output.trans h.output, Nat.le_trans h.size hg.size, fun k hk hn => (hg.block k (Nat.lt_of_lt_of_le hk h.size) (fun e => by have := hr k e.symm; omega)).trans (h.block k hk hn)⟩
theorem Turns.cell {S : Nat → Prop} {w w' : World} (h : Turns S w w') {a : Addr} (hs : a.block < w.heap.size) (hn : ¬ S a.block) : w'.cell? a = w.cell? a := World.cell?_of_block (h.block a.block hs hn)
theorem Turns.frozen {S : Nat → Prop} {w w' : World} (h : Turns S w w') {a : Addr} (hs : a.block < w.heap.size) (hn : ¬ S a.block) : w'.frozen? a = w.frozen? a := World.frozen?_of_block (h.block a.block hs hn)
theorem Turns.of_below {S : Nat → Prop} {w w' : World} (h : Below w.heap.size w w') : Turns S w w' := ⟨h.os, h.tape, h.output, h.size, fun k hk _ => h.block k hk⟩
theorem At.turns {q : IntKind} {S : Nat → Prop} {w w' : World} {p : Option Addr} {cap : Nat} {ds : List Nat} (h : At q w p cap ds) (ho : Turns S w w') (hp : ∀ a, p = some a → ds ≠ [] → ¬ S a.block) : At q w' p cap ds := by
  rcases h with h | ⟨b, off, rfl, h1, h2, h3⟩
  · exact .inl h
  · exact .inr ⟨b, off, rfl, h1, Nat.lt_of_lt_of_le h2 ho.size, fun j hj => (ho.cell (a := ⟨b, off + j, none⟩) h2 (hp ⟨b, off, none⟩ rfl (fun e => by subst e; simp at hj))).trans (h3 j hj)⟩
theorem Turns.only {S : Nat → Prop} {g : Nat} {w w1 w' : World} (h0 : Below w.heap.size w w1) (h : Turns S w1 w') (hS : ∀ k, k < w.heap.size → S k → k = g) : Only g w w' :=
  ⟨h.os.trans h0.os, h.tape.trans h0.tape, h.output.trans h0.output, Nat.le_trans h0.size h.size, fun k hk hn => (h.block k (Nat.lt_of_lt_of_le hk h0.size) (fun e => hn (hS k hk e))).trans (h0.block k hk)⟩
theorem Row.grown {q : IntKind} {t : TypeId} {g : Nat} {ds : List Nat} {w w' : World} {row : Option Nat} (h : Row q t w g ds) (hg : w.grownBy w' row) (hrow : ∀ r, row = some r → ∃ o : Obj, w.heap[r]? = some o ∧ o.isCells = false) : Row q t w' g ds :=
  h.keep (grownBy_keeps_cells hg hrow h rfl)
theorem Row.other {q : IntKind} {t : TypeId} {g g' : Nat} {ds : List Nat} {w : World} (h : Row q t w g ds) (hn : g ≠ g') (j : Nat) (u : Value) : Row q t (w.setCell ⟨g', j, none⟩ u) g ds :=
  h.keep (Below.heap_setCell _ _ _ _ hn)
theorem made_row {q : IntKind} {t : TypeId} {B g n : Nat} {w : World} (h : w.ownsRow B t 1 (.slice (some ⟨g, 0, none⟩) n n) n (madeCells (Value.int q 0).cells (n * 1)).toList) : Row q t w g (List.replicate n 0) := by
  obtain ⟨hl, ⟨h1, _⟩ | ⟨g', cap, cur, hv, _, hh, _, _, hs, ht⟩⟩ := h
  · cases h1
  · cases hv
    have e : cur = (cellsOf q (List.replicate n 0)).toArray := by
      have h1 : cur.toList.take (n * 1) = cur.toList := List.take_of_length_le (by simp [hs])
      rw [h1] at ht
      have h2 : (madeCells (Value.int q 0).cells (n * 1)).toList = cellsOf q (List.replicate n 0) := by
        rw [show (Value.int q 0).cells = #[Value.int q 0] from rfl, toList_madeCells_one, Nat.mul_one]
        simp [cellsOf]
      rw [h2] at ht
      rw [← ht]
    unfold Row
    rw [← e]
    exact hh
theorem splice_cells (q : IntKind) (xs ys : List Nat) (off : Nat) : splice (cellsOf q xs) off (cellsOf q ys) = cellsOf q (xs.take off ++ (ys ++ xs.drop (off + ys.length))) := by
  simp [splice, cellsOf]
end Go.Proofs.YtcfgefbkeeedgaaGreat
