/-
  What the statement stands on.
-/
import Derived.Test.YtfnlmiajpledfaaGreatDoorM20
import Derived.Test.YtfnlmiajpledfaaGreatDoorM22
import Derived.Laws.OwnMore
namespace Go.Proofs.YtfnlmiajpledfaaGreatDoor
open Go.RowKit
def rawCells : List RawQ → List Value
  | [] => []
  | x :: xs => .bool x.b :: .slice x.p x.ds.length x.K :: .slice x.q x.es.length x.J :: rawCells xs
theorem rawCells_len : ∀ xs, (rawCells xs).length = xs.length * 3
  | [] => rfl
  | _ :: xs => by simp [rawCells, rawCells_len xs]; omega
theorem rawCells_add : ∀ xs ys, rawCells (xs ++ ys) = rawCells xs ++ rawCells ys
  | [], _ => rfl
  | _ :: xs, ys => by simp [rawCells, rawCells_add xs ys]
theorem rawCells_get : ∀ {xs : List RawQ} {j : Nat} {x : RawQ}, xs[j]? = some x → (rawCells xs)[j * 3]? = some (.bool x.b) ∧ (rawCells xs)[j * 3 + 1]? = some (.slice x.p x.ds.length x.K) ∧ (rawCells xs)[j * 3 + 2]? = some (.slice x.q x.es.length x.J)
  | [], _, _, h => by simp at h
  | y :: xs, 0, x, h => by simp at h; subst h; exact ⟨rfl, rfl, rfl⟩
  | y :: xs, j + 1, x, h => by
    have := rawCells_get (xs := xs) (j := j) (x := x) (by simpa using h)
    refine ⟨?_, ?_, ?_⟩
    · rw [show (j + 1) * 3 = j * 3 + 1 + 1 + 1 by omega]; simpa [rawCells] using this.1
    · rw [show (j + 1) * 3 + 1 = j * 3 + 1 + 1 + 1 + 1 by omega]; simpa [rawCells] using this.2.1
    · rw [show (j + 1) * 3 + 2 = j * 3 + 2 + 1 + 1 + 1 by omega]; simpa [rawCells] using this.2.2
theorem rawCells_from : ∀ {xs : List RawQ} {j : Nat} {u : Value}, (rawCells xs)[j]? = some u → ∃ i x, xs[i]? = some x ∧ ((j = i * 3 ∧ u = .bool x.b) ∨ (j = i * 3 + 1 ∧ u = .slice x.p x.ds.length x.K) ∨ (j = i * 3 + 2 ∧ u = .slice x.q x.es.length x.J))
  | [], _, _, h => by simp [rawCells] at h
  | y :: xs, 0, u, h => by simp [rawCells] at h; exact ⟨0, y, rfl, .inl ⟨rfl, h.symm⟩⟩
  | y :: xs, 1, u, h => by simp [rawCells] at h; exact ⟨0, y, rfl, .inr (.inl ⟨rfl, h.symm⟩)⟩
  | y :: xs, 2, u, h => by simp [rawCells] at h; exact ⟨0, y, rfl, .inr (.inr ⟨rfl, h.symm⟩)⟩
  | y :: xs, j + 3, u, h => by
    obtain ⟨i, x, h1, h2⟩ := rawCells_from (xs := xs) (j := j) (u := u) (by simpa [rawCells] using h)
    refine ⟨i + 1, x, by simpa using h1, ?_⟩
    rcases h2 with ⟨rfl, e⟩ | ⟨rfl, e⟩ | ⟨rfl, e⟩
    · exact .inl ⟨by omega, e⟩
    · exact .inr (.inl ⟨by omega, e⟩)
    · exact .inr (.inr ⟨by omega, e⟩)
theorem rawCells_one (xs : List RawQ) : ∀ u ∈ rawCells xs, u.oneCell' = true := fun u hu => by
  obtain ⟨j, hj⟩ := List.getElem?_of_mem hu
  obtain ⟨i, x, _, ⟨_, rfl⟩ | ⟨_, rfl⟩ | ⟨_, rfl⟩⟩ := rawCells_from hj <;> rfl
theorem raws_own {w : World} {base n : Nat} {v : Value} {xs : List RawQ} (h : w.ownsRow base 34 3 v n (rawCells xs)) (hx : ∀ x, x ∈ xs → x.In w) : Raws w v xs ∧ n = xs.length := by
  have hn : n = xs.length := by
    have := h.1
    rw [rawCells_len] at this
    omega
  subst hn
  refine ⟨?_, rfl⟩
  rcases h.2 with ⟨h1, h2⟩ | ⟨g, cap, cur, h1, h2, h3, h4, h5, h6, h7⟩
  · subst h1
    exact ⟨none, 0, by rw [h2], fun _ => rfl, by omega, fun j x hj => by
      have := (List.getElem?_eq_some_iff.1 hj).1
      omega⟩
  · subst h1
    refine ⟨_, cap, rfl, fun e => (by cases e), h4, fun j x hj => ?_⟩
    have hc := h.cells (g := g) rfl
    have e : ∀ k, (⟨g, 0, none⟩ : Addr).add k = ⟨g, 0 + k, none⟩ := fun k => by unfold Addr.add; split <;> simp_all
    obtain ⟨e0, e1, e2⟩ := rawCells_get hj
    have c0 := hc _ _ e0
    have c1 := hc _ _ e1
    have c2 := hc _ _ e2
    rw [e] at c0 c1 c2
    exact ⟨g, 0, rfl, lt_of_heap h3, c0, c1, c2, hx x (List.mem_of_getElem? hj)⟩
theorem Raws.ins {w : World} {v : Value} {xs : List RawQ} (h : Raws w v xs) : ∀ y, y ∈ xs → y.In w := fun y hy => by
  obtain ⟨p, c, _, _, _, h3⟩ := h
  obtain ⟨j, hj⟩ := List.getElem?_of_mem hy
  obtain ⟨_, _, _, _, _, _, _, hr⟩ := h3 j y hj
  exact hr
theorem raws_out {w : World} {base n : Nat} {v : Value} {x : RawQ} {xs : List RawQ} (h : w.ownsRow base 34 3 v (1 + xs.length) (rawCells [x] ++ rawCells xs)) (hx : x.In w) (hr : ∀ y, y ∈ xs → y.In w) (hn : xs.length = n) :
    ∃ p c, v = .slice p (n + 1) c ∧ Raws w (.slice p (n + 1) c) (x :: xs) := by
  rw [← rawCells_add] at h
  obtain ⟨h1, _⟩ := raws_own h (fun y hy => by
    rcases List.mem_cons.1 hy with rfl | hy
    · exact hx
    · exact hr y hy)
  obtain ⟨p, c, e⟩ := h1.form
  have hl : ([x] ++ xs).length = n + 1 := by simp [hn]
  rw [hl] at e
  exact ⟨p, c, e, e ▸ h1⟩
section
variable {ops : Array Oper} {rest : List Oper} {o : Oper} {a : Act} {Q : Exit → Act → World → Prop} {w : World}
theorem append_raws (hg : o.guard = none) (s x : Operand) (ho : o.op = .call { callee := .builtin .append, args := #[s, x], argTypes := #[55, 55] }) (base : Nat) (v : Value) (n : Nat) (cs : List Value) (hs : a.eval s = v) (hown : w.ownsRow base 34 3 v n cs)
    (vx : Value) (xs : List RawQ) (hx : a.eval x = vx) (hr : Raws w vx xs) (hl : n + xs.length ≤ 100000) (hbase : base ≤ w.heap.size) (B : Nat) (w0 : World) (hb : Below B w0 w) (hB : B ≤ base)
    (hK : ∀ v' w', w'.ownsRow base 34 3 v' (n + xs.length) (cs ++ rawCells xs) → Below B w0 w' → w.grownBy w' v.ownBlock → wpList Tryz.prog ops Q rest (a.put o.dst v') w') :
    wpList Tryz.prog ops Q (o :: rest) a w := by
  obtain ⟨i, hi, hz, hsz, hby⟩ := info_parts info_rat
  obtain ⟨p, c, rfl, h1, h2, h3⟩ := hr
  cases p with
  | none =>
    obtain rfl := h1 rfl
    obtain rfl : xs = [] := List.eq_nil_of_length_eq_zero (by omega)
    refine wpList_append_own_none hg s x 55 ho base 34 i 3 Tryz.underlying55 hi v n cs hs hown hx ?_
    exact hK v w (by simpa [rawCells] using hown) hb (World.grownBy.refl w _)
  | some ad =>
    refine wpList_append_own (P := Tryz.prog) w hg s x 55 ho base 34 i _ 3 56 Tryz.underlying55 hi hz hsz hby rfl (by decide) v n cs hs hown ad xs.length c (rawCells xs) hx (rawCells_len xs) (fun j u hu => ?_) (rawCells_one xs) (by unfold maxLen; omega) (by omega) hbase (fun v' w' a1 a2 _ => hK v' w' a1 ?_ a2)
    · obtain ⟨k, y, hk, hu⟩ := rawCells_from hu
      obtain ⟨g, off, e, _, c0, c1, c2, _⟩ := h3 k y hk
      cases e
      have e : (⟨g, off, none⟩ : Addr).add j = ⟨g, off + j, none⟩ := by unfold Addr.add; split <;> simp_all
      rw [e]
      rcases hu with ⟨rfl, rfl⟩ | ⟨rfl, rfl⟩ | ⟨rfl, rfl⟩
      · exact c0
      · exact c1
      · exact c2
    · exact hb.grown a2 (Nat.le_trans hB hbase) fun k hk => Nat.le_trans hB (World.ownsRow.lt hown k hk).1
end
end Go.Proofs.YtfnlmiajpledfaaGreatDoor
