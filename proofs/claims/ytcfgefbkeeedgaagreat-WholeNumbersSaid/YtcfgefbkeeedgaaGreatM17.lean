/-
  What the statement stands on.
-/
import Derived.Test.YtcfgefbkeeedgaaGreatM05
import Derived.Laws.AppendOwnNone
import Derived.OwnWalk
namespace Go.Proofs.YtcfgefbkeeedgaaGreat
open Go.RowKit
def Own (q : IntKind) (t : TypeId) (w : World) (base : Nat) (v : Value) (ds : List Nat) : Prop := w.ownsRow base t 1 v ds.length (cellsOf q ds)
theorem Own.nil (q : IntKind) (t : TypeId) (w : World) (base : Nat) : Own q t w base (.slice none 0 0) [] := World.ownsRow_nil w base t 1
theorem Own.alloc {q : IntKind} {t : TypeId} {w : World} {base : Nat} {v : Value} {ds : List Nat} (h : Own q t w base v ds) (o : Obj) : Own q t (w.alloc o) base v ds := World.ownsRow.alloc h o
theorem Own.form {q : IntKind} {t : TypeId} {w : World} {base : Nat} {v : Value} {ds : List Nat} (h : Own q t w base v ds) :
    (v = .slice none 0 0 ∧ ds = []) ∨ ∃ g cap, v = .slice (some ⟨g, 0, none⟩) ds.length cap ∧ base ≤ g ∧ g < w.heap.size ∧ ds.length ≤ cap ∧ ∀ j, j < ds.length → w.cell? ⟨g, 0 + j, none⟩ = some (.int q ((dg ds j : Nat) : Int)) := by
  have h' : w.ownsRow base t 1 v ds.length (cellsOf q ds) := h
  rcases h'.2 with ⟨h1, h2⟩ | ⟨g, cap, cur, h1, h2, h3, h4, h5, h6, h7⟩
  · exact .inl ⟨h1, List.eq_nil_of_length_eq_zero h2⟩
  · refine .inr ⟨g, cap, h1, h2, (Array.getElem?_eq_some_iff.1 h3).1, h4, fun j hj => ?_⟩
    have hc := h'.cells (g := g) (by rw [h1]; rfl) j _ (cellsOf_get q ds j hj)
    have e : (⟨g, 0, none⟩ : Addr).add j = ⟨g, 0 + j, none⟩ := by unfold Addr.add; split <;> simp_all
    rwa [e] at hc
theorem Own.nums {q : IntKind} {t : TypeId} {w : World} {base : Nat} {v : Value} {ds : List Nat} (h : Own q t w base v ds) : Nums q w v ds := by
  rcases h.form with ⟨rfl, rfl⟩ | ⟨g, cap, rfl, _, h2, h3, h4⟩
  · exact .nil q w
  · exact ⟨_, cap, rfl, .inr ⟨g, 0, rfl, h3, h2, h4⟩⟩
theorem Own.block {q : IntKind} {t : TypeId} {w : World} {base : Nat} {v : Value} {ds : List Nat} (h : Own q t w base v ds) : ∀ k, v.ownBlock = some k → base ≤ k ∧ k < w.heap.size := World.ownsRow.lt h
theorem Own.made {q : IntKind} {t : TypeId} (w : World) (base cap : Nat) (ds : List Nat) (hb : base ≤ w.heap.size) (hc : cap = ds.length) (hl : ds.length ≤ 1000000) :
    Own q t (w.alloc (.cells (cellsOf q ds).toArray t)) base (.slice (some ⟨w.heap.size, 0, none⟩) ds.length cap) ds := by
  subst hc
  refine ⟨by rw [cellsOf_length, Nat.mul_one], .inr ⟨w.heap.size, ds.length, _, rfl, hb, World.alloc_heap_new w _, Nat.le_refl _, by unfold maxLen; omega, by simp [cellsOf], ?_⟩⟩
  rw [Nat.mul_one]
  exact List.take_of_length_le (by simp [cellsOf])
section
variable {P : Program} {ops : Array Oper} {rest : List Oper} {o : Oper} {a : Act} {Q : Exit → Act → World → Prop} {w : World}
theorem append_list (hg : o.guard = none) (T e : TypeId) (q : IntKind) (i0 : TypeInfo) (bytes : Nat) (hT : P.underlying T = some (.slice e)) (hi : P.info? e = some i0) (hz0 : i0.zero = some (.int q 0)) (hz1 : i0.size = 1) (hz2 : i0.bytes = bytes) (hby : bytes ≤ 8)
    (s x : Operand) (ho : o.op = .call { callee := .builtin .append, args := #[s, x], argTypes := #[T, T] }) (base : Nat) (v : Value) (ds es : List Nat) (hs : a.eval s = v) (hown : Own q e w base v ds)
    (p : Option Addr) (K m : Nat) (hm : es.length = m) (hx : a.eval x = .slice p m K) (hat : At q w p K es) (hl : ds.length + es.length ≤ 1000000) (hbase : base ≤ w.heap.size) (B : Nat) (w0 : World) (hb : Below B w0 w) (hB : B ≤ base)
    (hK : ∀ v' w', Own q e w' base v' (ds ++ es) → Below B w0 w' → w.grownBy w' v.ownBlock → wpList P ops Q rest (a.put o.dst v') w') :
    wpList P ops Q (o :: rest) a w := by
  rcases hat with ⟨rfl, hp0⟩ | ⟨b, off, rfl, _, _, hc⟩
  · obtain rfl : m = 0 := by simpa using hm.symm
    cases p with
    | some a0 =>
      refine wpList_append_own (P := P) w hg s x T ho base e i0 (.int q 0) 1 bytes hT hi hz0 hz1 hz2 rfl (by decide) v ds.length (cellsOf q ds) hs hown a0 0 K [] hx rfl (fun j u hu => by simp at hu) (fun u hu => by simp at hu) (by unfold maxLen; omega)
        (Nat.le_trans (Nat.mul_le_mul hl hby) (by decide)) hbase (fun v' w' h1 h2 _ => hK v' w' ?_ ?_ h2)
      · rw [List.append_nil] at h1 ⊢
        exact h1
      · exact hb.grown h2 (Nat.le_trans hB hbase) fun k hk => Nat.le_trans hB (hown.block k hk).1
    | none =>
    obtain rfl : K = 0 := hp0 rfl
    refine wpList_append_own_none hg s x T ho base e i0 1 hT hi v ds.length (cellsOf q ds) hs hown hx ?_
    have := hK v w (by simpa using hown) hb (World.grownBy.refl w _)
    exact this
  · subst hm
    refine wpList_append_own (P := P) w hg s x T ho base e i0 (.int q 0) 1 bytes hT hi hz0 hz1 hz2 rfl (by decide) v ds.length (cellsOf q ds) hs hown ⟨b, off, none⟩ es.length K (cellsOf q es) hx (by rw [cellsOf_length, Nat.mul_one]) (fun j u hu => ?_) (fun u hu => ?_) (by unfold maxLen; omega)
      (Nat.le_trans (Nat.mul_le_mul hl hby) (by decide)) hbase (fun v' w' h1 h2 _ => hK v' w' ?_ ?_ h2)
    · have hj : j < es.length := by
        have := (List.getElem?_eq_some_iff.1 hu).1
        rwa [cellsOf_length] at this
      rw [cellsOf_get _ _ _ hj] at hu
      cases hu
      have e : (⟨b, off, none⟩ : Addr).add j = ⟨b, off + j, none⟩ := by unfold Addr.add; split <;> simp_all
      rw [e]; exact hc j hj
    · obtain ⟨y, _, rfl⟩ := List.mem_map.1 hu; rfl
    · unfold Own
      rw [List.length_append, show cellsOf q (ds ++ es) = cellsOf q ds ++ cellsOf q es by simp [cellsOf]]
      exact h1
    · exact hb.grown h2 (Nat.le_trans hB hbase) fun k hk => Nat.le_trans hB (hown.block k hk).1
end
def IsRef (w : World) (v : Value) (n : Nat) : Prop := ∃ ds, Nums .i64 w v ds ∧ Can 256 ds ∧ val 256 ds = n
theorem IsRef.below {B : Nat} {w w' : World} {v : Value} {n : Nat} (hb : Below B w w') (hB : w.heap.size ≤ B) : IsRef w v n → IsRef w' v n
  | ⟨ds, h, c⟩ => ⟨ds, h.below hb hB, c⟩
theorem IsRef.eq {w : World} {v : Value} {m n : Nat} (h : IsRef w v m) (e : m = n) : IsRef w v n := e ▸ h
def NewIn (B : Nat) (v : Value) : Prop := ∀ k, v.ownBlock = some k → B ≤ k
theorem NewIn.mono {B C : Nat} {v : Value} (h : NewIn C v) (hB : B ≤ C) : NewIn B v := fun k hk => Nat.le_trans hB (h k hk)
theorem NewIn.nil (B : Nat) : NewIn B (.slice none 0 0) := fun k hk => by simp [Value.ownBlock] at hk
theorem NewIn.cut {B n K n' K' : Nat} {p : Option Addr} (h : NewIn B (.slice p n K)) : NewIn B (.slice p n' K') := fun k hk => h k (by cases p <;> exact hk)
theorem IsRef.set {w : World} {v : Value} {n B : Nat} (h : IsRef w v n) (hv : NewIn B v) {a : Addr} (ha : a.block < B) (u : Value) : IsRef (w.setCell a u) v n := by
  obtain ⟨ds, ⟨p, K, rfl, hat⟩, hc⟩ := h
  refine ⟨ds, ⟨p, K, rfl, ?_⟩, hc⟩
  rcases hat with h | ⟨b, off, rfl, h1, h2, h3⟩
  · exact .inl h
  · have hb : B ≤ b := hv b rfl
    refine .inr ⟨b, off, rfl, h1, by simpa using h2, fun j hj => ?_⟩
    rw [World.cell?_setCell_other]
    · exact h3 j hj
    · intro e
      have := congrArg Addr.block e
      simp at this
      omega
end Go.Proofs.YtcfgefbkeeedgaaGreat
