/-
  What the statement stands on.
-/
import Derived.Test.YtcfgefbkeeedgaaGreatM05
import Derived.Test.YtcfgefbkeeedgaaGreatM06
namespace Go.Proofs.YtcfgefbkeeedgaaGreat
open Go.RowKit
theorem info_rat : (Tryz.prog.info? 39).map (fun i => (i.zero, i.size, i.bytes)) = some (some (.agg #[.bool false, .slice none 0 0, .slice none 0 0]), 3, 56) := by kernel_rfl
def zr3 : Nat → List Value
  | 0 => []
  | n + 1 => .bool false :: .slice none 0 0 :: .slice none 0 0 :: zr3 n
theorem zr3_len : ∀ n, (zr3 n).length = n * 3
  | 0 => rfl
  | n + 1 => by simp [zr3, zr3_len n]; omega
theorem zr3_made : ∀ n : Nat, (madeCells #[.bool false, .slice none 0 0, .slice none 0 0] (n * 3)).toList = zr3 n
  | 0 => by simp [madeCells, zr3]
  | n + 1 => by
    have ih := zr3_made n
    simp only [madeCells, Array.toList_map, Array.toList_range] at ih ⊢
    rw [show (n + 1) * 3 = 3 + n * 3 by omega, List.range_add, List.map_append, List.map_map]
    rw [show ((fun x => (#[Value.bool false, .slice none 0 0, .slice none 0 0] : Array Value)[x % (#[Value.bool false, .slice none 0 0, .slice none 0 0] : Array Value).size]!) ∘ fun x => 3 + x) = (fun x => (#[Value.bool false, .slice none 0 0, .slice none 0 0] : Array Value)[x % (#[Value.bool false, .slice none 0 0, .slice none 0 0] : Array Value).size]!) from funext fun x => by
      show (#[Value.bool false, .slice none 0 0, .slice none 0 0] : Array Value)[(3 + x) % 3]! = (#[Value.bool false, .slice none 0 0, .slice none 0 0] : Array Value)[x % 3]!
      rw [Nat.add_mod_left]]
    rw [ih]
    rfl
theorem made_cells {e : TypeId} {B g n sz : Nat} {w : World} {cs : List Value} (h : w.ownsRow B e sz (.slice (some ⟨g, 0, none⟩) n n) n cs) : w.heap[g]? = some (.cells cs.toArray e (0, 0)) := by
  obtain ⟨hl, ⟨h1, _⟩ | ⟨g', cap, cur, hv, _, hh, _, _, hs, ht⟩⟩ := h
  · cases h1
  · cases hv
    have h1 : cur.toList.take (n * sz) = cur.toList := List.take_of_length_le (by simp [hs])
    rw [h1] at ht
    rw [← ht]
    exact hh
section
variable {ops : Array Oper} {rest : List Oper} {o : Oper} {a : Act} {Q : Exit → Act → World → Prop} {w0 w : World} {LL : List (Nat × TypeId × List Value)}
theorem make_rats (S : St w0 w LL) (hg : o.guard = none) (l c : Operand) (hop : o.op = Op.makeSlice 22 l c) (L C : Int) (n : Nat) (hl : a.eval l = .int .i64 L) (hc : a.eval c = .int .i64 C) (hL : L = (n : Int)) (hC : C = (n : Int))
    (hn : n ≤ 1000000000)
    (hK : ∀ w', St w0 w' (LL ++ [(w.heap.size, 39, zr3 n)]) → Below w.heap.size w w' → wpList Tryz.prog ops Q rest (a.put o.dst (.slice (some ⟨w.heap.size, 0, none⟩) n n)) w') :
    wpList Tryz.prog ops Q (o :: rest) a w := by
  obtain ⟨i0, hi, hz0, hz1, hz2⟩ := info_parts info_rat
  refine wpList_make_full w hg l c _ hop w.heap.size 39 i0 _ 3 Tryz.underlying22 hi hz0 hz1 .i64 .i64 L C n hl hc hL hC (by rw [hz2]; omega) (by unfold maxLen; omega) (Nat.le_refl _) ?_
  intro w' ho hgr
  have hB := (Below.refl _ w).grown hgr (Nat.le_refl _) (fun _ e => by cases e)
  have hh := made_cells ho
  rw [show (Value.agg #[.bool false, .slice none 0 0, .slice none 0 0]).cells = #[.bool false, .slice none 0 0, .slice none 0 0] by kernel_rfl, zr3_made] at hh
  exact hK w' (S.adopt hB (Nat.le_refl _) hh) hB
end
theorem setL_set : ∀ {L : List (Nat × TypeId × List Value)} {i j : Nat} {v : Value} {b : Nat} {t : TypeId} {vs : List Value}, L[i]? = some (b, t, vs) → setL L i j v = L.set i (b, t, vs.set j v)
  | [], _, _, _, _, _, _, h => by simp at h
  | (b0, t0, vs0) :: L, 0, j, v, b, t, vs, h => by simp at h; obtain ⟨rfl, rfl, rfl⟩ := h; rfl
  | x :: L, i + 1, j, v, b, t, vs, h => by
    have h' : L[i]? = some (b, t, vs) := by simpa using h
    have := setL_set (j := j) (v := v) h'
    simpa [setL] using this
theorem St.putAt {w W : World} {L : List (Nat × TypeId × List Value)} (S : St w W L) (i : Nat) (v0 v1 v2 : Value) {b : Nat} {t : TypeId} {vs : List Value} {n j : Nat} (hi : L[i]? = some (b, t, vs ++ zr3 (n + 1))) (hj : vs.length = j) :
    St w (((W.setCell ⟨b, j, none⟩ v0).setCell ⟨b, j + 1, none⟩ v1).setCell ⟨b, j + 2, none⟩ v2) (L.set i (b, t, (vs ++ [v0, v1, v2]) ++ zr3 n)) ∧
    Hold W (((W.setCell ⟨b, j, none⟩ v0).setCell ⟨b, j + 1, none⟩ v1).setCell ⟨b, j + 2, none⟩ v2) := by
  have e0 : vs ++ zr3 (n + 1) = vs ++ .bool false :: .slice none 0 0 :: .slice none 0 0 :: zr3 n := rfl
  rw [e0] at hi
  have hl : i < L.length := (List.getElem?_eq_some_iff.1 hi).1
  have g0 : (vs ++ .bool false :: .slice none 0 0 :: .slice none 0 0 :: zr3 n)[j]? = some (.bool false) := by subst hj; simp
  have S1 := S.set i j v0 hi
  have H1 := Hold.set (S.c i j hi g0) (fun _ _ => by intro h; cases h) v0
  have h1 : (setL L i j v0)[i]? = some (b, t, (vs ++ .bool false :: .slice none 0 0 :: .slice none 0 0 :: zr3 n).set j v0) := by rw [setL_set hi]; simp [hl]
  have g1 : ((vs ++ .bool false :: .slice none 0 0 :: .slice none 0 0 :: zr3 n).set j v0)[j + 1]? = some (.slice none 0 0) := by subst hj; rw [List.getElem?_set_ne (by omega), List.getElem?_append_right (by omega)]; simp
  have S2 := S1.set i (j + 1) v1 h1
  have H2 := Hold.set (S1.c i (j + 1) h1 g1) (fun _ _ => by intro h; cases h) v1
  have h2 : (setL (setL L i j v0) i (j + 1) v1)[i]? = some (b, t, ((vs ++ .bool false :: .slice none 0 0 :: .slice none 0 0 :: zr3 n).set j v0).set (j + 1) v1) := by rw [setL_set h1, setL_set hi]; simp [hl]
  have g2 : (((vs ++ .bool false :: .slice none 0 0 :: .slice none 0 0 :: zr3 n).set j v0).set (j + 1) v1)[j + 2]? = some (.slice none 0 0) := by subst hj; rw [List.getElem?_set_ne (by omega), List.getElem?_set_ne (by omega), List.getElem?_append_right (by omega)]; simp
  have S3 := S2.set i (j + 2) v2 h2
  have H3 := Hold.set (S2.c i (j + 2) h2 g2) (fun _ _ => by intro h; cases h) v2
  have e3 : setL (setL (setL L i j v0) i (j + 1) v1) i (j + 2) v2 = L.set i (b, t, (vs ++ [v0, v1, v2]) ++ zr3 n) := by
    rw [setL_set h2, setL_set h1, setL_set hi, List.set_set, List.set_set, set_three vs (zr3 n) _ _ _ v0 v1 v2 j hj, List.append_assoc]
    rfl
  rw [e3] at S3
  exact ⟨S3, (H1.trans H2).trans H3⟩
theorem info_list : (Tryz.prog.info? 22).map (fun i => (i.zero, i.size, i.bytes)) = some (some (.slice none 0 0), 1, 24) := by kernel_rfl
end Go.Proofs.YtcfgefbkeeedgaaGreat
