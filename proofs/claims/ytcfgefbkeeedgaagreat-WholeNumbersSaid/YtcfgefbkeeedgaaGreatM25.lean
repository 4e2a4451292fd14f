/-
  What the statement stands on.
-/
import Derived.Test.YtcfgefbkeeedgaaGreatM24
import Derived.Laws.AppendOwn
namespace Go.Proofs.YtcfgefbkeeedgaaGreat
open Go.RowKit
structure Tk where
  k : Nat
  a : Nat
  t : ByteArray
def tokCells : List Tk → List Value
  | [] => []
  | x :: l => .int .i64 x.k :: .int .i64 x.a :: .string x.t :: tokCells l
theorem tokCells_add : ∀ l m : List Tk, tokCells (l ++ m) = tokCells l ++ tokCells m
  | [], _ => rfl
  | x :: l, m => by simp [tokCells, tokCells_add l m]
def Toks (w : World) (base : Nat) (v : Value) (l : List Tk) : Prop := w.ownsRow base 45 3 v l.length (tokCells l)
theorem Toks.nil (w : World) (base : Nat) : Toks w base (.slice none 0 0) [] := World.ownsRow_nil w base 45 3
def scanA (s : ByteArray) : Nat → Nat → List Tk → Except (Nat × Nat) (List Tk)
  | 0, _, acc => .ok acc
  | f + 1, at_, acc =>
    if at_ < s.size then
      if (beginL ((bs s).drop at_)).2 = 0 then .error (2, at_) else
      if acc.length = 16384 then .error (3, at_) else
      scanA s f (at_ + (beginL ((bs s).drop at_)).2 + leftL ((bs s).drop (at_ + (beginL ((bs s).drop at_)).2))) (acc ++ [⟨(beginL ((bs s).drop at_)).1, at_, s.extract at_ (at_ + (beginL ((bs s).drop at_)).2)⟩])
    else .ok acc
def scanL (s : ByteArray) : Except (Nat × Nat) (List Tk) :=
  if 65536 < s.size then .error (3, 65536) else
  match scanA s (s.size + 1) (leftL (bs s)) [] with
  | .ok l => .ok (l ++ [⟨4, s.size, ⟨#[]⟩⟩])
  | .error e => .error e
section
variable {ops : Array Oper} {rest : List Oper} {o : Oper} {a : Act} {Q : Exit → Act → World → Prop} {w : World}
set_option maxRecDepth 100000 in
theorem tok_info : (Tryz.prog.info? 45).map (fun i => (i.zero, i.size, i.bytes)) = some (some (.agg #[.int .i64 0, .int .i64 0, .string ⟨#[]⟩]), 3, 32) := by kernel_rfl
theorem append_tok (hg : o.guard = none) (s x : Operand) (ho : o.op = .call { callee := .builtin .append, args := #[s, x], argTypes := #[26, 26] }) (base : Nat) (v : Value) (l : List Tk) (hs : a.eval s = v) (hown : Toks w base v l)
    (g : Nat) (y : Tk) (hx : a.eval x = .slice (some ⟨g, 0, none⟩) 1 1) (h0 : w.cell? ⟨g, 0, none⟩ = some (.int .i64 y.k)) (h1 : w.cell? ⟨g, 1, none⟩ = some (.int .i64 y.a)) (h2 : w.cell? ⟨g, 2, none⟩ = some (.string y.t)) (hl : l.length ≤ 100000) (hbase : base ≤ w.heap.size) (B : Nat) (w0 : World) (hb : Below B w0 w) (hB : B ≤ base)
    (hK : ∀ v' w', Toks w' base v' (l ++ [y]) → Below B w0 w' → wpList Tryz.prog ops Q rest (a.put o.dst v') w') :
    wpList Tryz.prog ops Q (o :: rest) a w := by
  obtain ⟨i, hi, hz, hsz, hby⟩ := info_parts tok_info
  refine wpList_append_own (P := Tryz.prog) w hg s x 26 ho base 45 i _ 3 32 Tryz.underlying26 hi hz hsz hby rfl (by decide) v l.length (tokCells l) hs hown ⟨g, 0, none⟩ 1 1 [.int .i64 y.k, .int .i64 y.a, .string y.t] hx rfl (fun j u hu => ?_) (fun u hu => ?_) (by unfold maxLen; omega) (by omega) hbase (fun v' w' a1 a2 _ => hK v' w' ?_ ?_)
  · match j, hu with
    | 0, hu => cases hu; exact h0
    | 1, hu => cases hu; exact h1
    | 2, hu => cases hu; exact h2
  · simp at hu
    rcases hu with rfl | rfl | rfl <;> rfl
  · unfold Toks
    rw [List.length_append, tokCells_add]
    exact a1
  · exact hb.grown a2 (Nat.le_trans hB hbase) fun k hk => Nat.le_trans hB (World.ownsRow.lt hown k hk).1
end
end Go.Proofs.YtcfgefbkeeedgaaGreat
