/-
  What the statement stands on.
-/
import Derived.Test.YtcfgefbkeeedgaaGreatM04
import Derived.Test.YtcfgefbkeeedgaaGreatProg
namespace Go.Proofs.YtcfgefbkeeedgaaGreat
open Go.RowKit
theorem info_u32 : (Tryz.prog.info? 88).map (fun i => (i.zero, i.size, i.bytes)) = some (some (.int .u32 0), 1, 4) := by kernel_rfl
section
variable {ops : Array Oper} {rest : List Oper} {o : Oper} {a : Act} {Q : Exit → Act → World → Prop} {w : World}
theorem make_nat (hg : o.guard = none) (l c : Operand) (hop : o.op = Op.makeSlice 35 l c) (L C : Int) (n : Nat) (hl : a.eval l = .int .i64 L) (hc : a.eval c = .int .i64 C) (hL : L = (n : Int)) (hC : C = (n : Int))
    (hn : n ≤ 1000000000) (B : Nat) (w0 : World) (hb : Below B w0 w) (hB : B ≤ w.heap.size)
    (hK : ∀ w', Row .u32 88 w' w.heap.size (List.replicate n 0) → Below B w0 w' → Below w.heap.size w w' → wpList Tryz.prog ops Q rest (a.put o.dst (.slice (some ⟨w.heap.size, 0, none⟩) n n)) w') :
    wpList Tryz.prog ops Q (o :: rest) a w := by
  obtain ⟨i0, hi, hz0, hz1, hz2⟩ := info_parts info_u32
  refine wpList_make_full w hg l c _ hop w.heap.size 88 i0 (.int .u32 0) 1 Tryz.underlying35 hi hz0 hz1 .i64 .i64 L C n hl hc hL hC (by rw [hz2]; omega) (by unfold maxLen; omega) (Nat.le_refl _) ?_
  intro w' ho hgr
  exact hK w' (made_row ho) (hb.grown hgr hB (fun _ e => by cases e)) ((Below.refl _ w).grown hgr (Nat.le_refl _) (fun _ e => by cases e))
theorem copy_nat (hg : o.guard = none) (d s : Operand) (ho : o.op = .call { callee := .builtin .copy, args := #[d, s], argTypes := #[35, 35] })
    (g dCap : Nat) (cur xs : List Nat) (sp : Option Addr) (sCap dLen sLen : Nat) (hd : a.eval d = .slice (some ⟨g, 0, none⟩) dLen dCap) (hs : a.eval s = .slice sp sLen sCap) (hdl : dLen = cur.length) (hsl : sLen = xs.length)
    (hrow : Row .u32 88 w g cur) (hat : At .u32 w sp sCap xs) (hle : xs.length ≤ cur.length) (B : Nat) (w0 : World) (hb : Below B w0 w) (hBg : B ≤ g)
    (hK : ∀ w', Row .u32 88 w' g (xs ++ cur.drop xs.length) → Below B w0 w' → wpList Tryz.prog ops Q rest (a.put o.dst (goInt xs.length)) w') :
    wpList Tryz.prog ops Q (o :: rest) a w := by
  refine wpList_copy_splice hg d s _ _ ho 88 Tryz.underlying35 (by kernel_rfl) _ _ _ _ _ _ hd hs g 0 (cellsOf .u32 cur) 88 hrow (cellsOf .u32 xs) (by rw [cellsOf_length, hdl, hsl]; exact (Nat.min_eq_left hle).symm) ?_ (by rw [cellsOf_length, cellsOf_length]; omega) (by intro v hv; obtain ⟨x, _, rfl⟩ := List.mem_map.1 hv; rfl) B w0 hb hBg ?_
  · intro hp
    rw [cellsOf_length] at hp
    obtain ⟨b, off, rfl, _, _, hc⟩ := hat.pos hp
    refine ⟨rfl, _, rfl, fun j v hv => ?_⟩
    have hj : j < xs.length := by
      have := (List.getElem?_eq_some_iff.1 hv).1
      rwa [cellsOf_length] at this
    rw [cellsOf_get _ _ _ hj] at hv
    cases hv
    have e : (⟨b, off, none⟩ : Addr).add j = ⟨b, off + j, none⟩ := by unfold Addr.add; split <;> simp_all
    rw [e]; exact hc j hj
  · intro w' hr hb'
    have hr := hr.out
    rw [splice_cells] at hr
    rw [cellsOf_length]
    simp only [List.take_zero, List.nil_append, Nat.zero_add] at hr
    exact hK w' hr hb'
end
end Go.Proofs.YtcfgefbkeeedgaaGreat
