/-
  What the statement stands on.
-/
import Derived.Test.YtcfgefbkeeedgaaM18
import Derived.Laws.AppendOwnNone
import Derived.Laws.OwnMore
import Derived.OwnWalk
namespace Go.Proofs.Ytcfgefbkeeedgaa
open Go.RowKit
theorem lists_own {w : World} {base n : Nat} {v : Value} {cs : List Value} (h : w.ownsRow base 22 1 v n cs) : n = cs.length ∧ ∃ p c, v = .slice p n c ∧ (p = none → c = 0) ∧ n ≤ c ∧ ∀ (j : Nat) u, cs[j]? = some u → ∃ g, p = some ⟨g, 0, none⟩ ∧ g < w.heap.size ∧ w.cell? ⟨g, 0 + j, none⟩ = some u := by
  have hn : n = cs.length := by
    have := h.1
    omega
  refine ⟨hn, ?_⟩
  rcases h.2 with ⟨h1, h2⟩ | ⟨g, cap, cur, h1, h2, h3, h4, h5, h6, h7⟩
  · subst h1
    refine ⟨none, 0, by rw [h2], fun _ => rfl, by omega, fun j u hj => ?_⟩
    have := (List.getElem?_eq_some_iff.1 hj).1
    omega
  · subst h1
    refine ⟨_, cap, rfl, fun e => (by cases e), h4, fun j u hj => ?_⟩
    have hc := h.cells (g := g) rfl
    have e : ∀ k, (⟨g, 0, none⟩ : Addr).add k = ⟨g, 0 + k, none⟩ := fun k => by unfold Addr.add; split <;> simp_all
    have c0 := hc _ _ hj
    rw [e] at c0
    exact ⟨g, rfl, lt_of_heap h3, c0⟩
theorem tabs_own {w : World} {base n : Nat} {v : Value} {cs : List Value} {A : List (List Rat)} (h : w.ownsRow base 22 1 v n cs) (hA : A.length = n) (hr : ∀ (j : Nat) u row, cs[j]? = some u → A[j]? = some row → Rats w u row) : Tabs2 w v A := by
  obtain ⟨hn, p, c, rfl, h1, h2, h3⟩ := lists_own h
  subst hA
  refine ⟨p, c, rfl, h1, h2, fun j row hj => ?_⟩
  have hl := (List.getElem?_eq_some_iff.1 hj).1
  have hu : cs[j]? = some (cs[j]'(by omega)) := List.getElem?_eq_getElem _
  obtain ⟨g, e, hg, hc⟩ := h3 j _ hu
  exact ⟨g, 0, _, e, hg, hc, hr j _ row hu hj⟩
section
variable {ops : Array Oper} {rest : List Oper} {o : Oper} {a : Act} {Q : Exit → Act → World → Prop} {w : World}
theorem append_lists (hg : o.guard = none) (s x : Operand) (ho : o.op = .call { callee := .builtin .append, args := #[s, x], argTypes := #[25, 25] }) (base : Nat) (v : Value) (n : Nat) (cs : List Value) (hs : a.eval s = v) (hown : w.ownsRow base 22 1 v n cs)
    (p : Option Addr) (l c : Nat) (us : List Value) (hx : a.eval x = .slice p l c) (hul : us.length = l) (hp : p = none → c = 0 ∧ l = 0) (hat : ∀ g off sp, p = some ⟨g, off, sp⟩ → sp = none ∧ ArrAt w g off us) (hone : ∀ u ∈ us, u.oneCell' = true) (hcl : l ≤ c) (hl : n + l ≤ 100000) (hbase : base ≤ w.heap.size) (B : Nat) (w0 : World) (hb : Below B w0 w) (hB : B ≤ base)
    (hK : ∀ v' w', w'.ownsRow base 22 1 v' (n + l) (cs ++ us) → Below B w0 w' → w.grownBy w' v.ownBlock → wpList Try.prog ops Q rest (a.put o.dst v') w') :
    wpList Try.prog ops Q (o :: rest) a w := by
  obtain ⟨i, hi, hz, hsz, hby⟩ := info_parts info_list
  cases p with
  | none =>
    obtain ⟨rfl, rfl⟩ := hp rfl
    obtain rfl : us = [] := List.eq_nil_of_length_eq_zero (by omega)
    refine wpList_append_own_none hg s x 25 ho base 22 i 1 Try.underlying25 hi v n cs hs hown hx ?_
    exact hK v w (by simpa using hown) hb (World.grownBy.refl w _)
  | some ad =>
    refine wpList_append_own (P := Try.prog) w hg s x 25 ho base 22 i _ 1 24 Try.underlying25 hi hz hsz hby rfl (by decide) v n cs hs hown ad l c us hx (by omega) (fun j u hu => ?_) hone (by unfold maxLen; omega) (by omega) hbase (fun v' w' a1 a2 _ => hK v' w' a1 ?_ a2)
    · obtain ⟨g, off, sp⟩ := ad
      obtain ⟨rfl, ha⟩ := hat g off sp rfl
      have e : (⟨g, off, none⟩ : Addr).add j = ⟨g, off + j, none⟩ := by unfold Addr.add; split <;> simp_all
      rw [e]
      exact ha j u hu
    · exact hb.grown a2 (Nat.le_trans hB hbase) fun k hk => Nat.le_trans hB (World.ownsRow.lt hown k hk).1
end
end Go.Proofs.Ytcfgefbkeeedgaa
