/-
  What the statement stands on.
-/
import Derived.Test.YtcfgefbkeeedgaaGreatM01
import Derived.Test.YtcfgefbkeeedgaaGreatM02
import Derived.Lib.Hide
namespace Go.Proofs.YtcfgefbkeeedgaaGreat
open Go.RowKit
def At (q : IntKind) (w : World) (p : Option Addr) (cap : Nat) (ds : List Nat) : Prop :=
  (ds = [] ∧ (p = none → cap = 0)) ∨ ∃ b off, p = some ⟨b, off, none⟩ ∧ ds.length ≤ cap ∧ b < w.heap.size ∧ ∀ j, j < ds.length → w.cell? ⟨b, off + j, none⟩ = some (.int q ((dg ds j : Nat) : Int))
def Nums (q : IntKind) (w : World) (v : Value) (ds : List Nat) : Prop := ∃ p cap, v = .slice p ds.length cap ∧ At q w p cap ds
theorem Nums.nil (q : IntKind) (w : World) : Nums q w (.slice none 0 0) [] := ⟨none, 0, rfl, .inl ⟨rfl, fun _ => rfl⟩⟩
theorem At.below {q : IntKind} {B : Nat} {w w' : World} {p : Option Addr} {cap : Nat} {ds : List Nat} (hb : Below B w w') (hB : w.heap.size ≤ B) : At q w p cap ds → At q w' p cap ds
  | .inl h => .inl h
  | .inr ⟨b, off, e, hc, hs, h⟩ => .inr ⟨b, off, e, hc, Nat.lt_of_lt_of_le hs hb.size, fun j hj => (hb.cell (p := ⟨b, off + j, none⟩) (Nat.lt_of_lt_of_le hs hB)).trans (h j hj)⟩
theorem Nums.below {q : IntKind} {B : Nat} {w w' : World} {v : Value} {ds : List Nat} (hb : Below B w w') (hB : w.heap.size ≤ B) : Nums q w v ds → Nums q w' v ds
  | ⟨p, cap, e, h⟩ => ⟨p, cap, e, h.below hb hB⟩
theorem At.pos {q : IntKind} {w : World} {p : Option Addr} {cap : Nat} {ds : List Nat} (h : At q w p cap ds) (hn : 0 < ds.length) :
    ∃ b off, p = some ⟨b, off, none⟩ ∧ ds.length ≤ cap ∧ b < w.heap.size ∧ ∀ j, j < ds.length → w.cell? ⟨b, off + j, none⟩ = some (.int q ((dg ds j : Nat) : Int)) := by
  rcases h with ⟨rfl, _⟩ | h
  · simp at hn
  · exact h
theorem At.block {q : IntKind} {w : World} {p : Option Addr} {cap : Nat} {ds : List Nat} (h : At q w p cap ds) : ∀ a, p = some a → ds ≠ [] → a.block < w.heap.size := by
  intro a ha hne
  rcases h with ⟨rfl, _⟩ | ⟨b, o, rfl, _, hb, _⟩
  · exact absurd rfl hne
  · cases ha; exact hb
theorem At.other {q : IntKind} {w : World} {p : Option Addr} {cap : Nat} {ds : List Nat} (h : At q w p cap ds) {a : Addr} {v : Value} (u : Value) (hc : w.cell? a = some v) (hv : ∀ n, v ≠ .int q n) : At q (w.setCell a u) p cap ds := by
  rcases h with h | ⟨b, off, e, h1, h2, h3⟩
  · exact .inl h
  · refine .inr ⟨b, off, e, h1, by simpa using h2, fun j hj => ?_⟩
    rw [World.cell?_setCell_other]
    · exact h3 j hj
    · rintro rfl
      rw [h3 j hj] at hc
      exact hv _ (by cases hc; rfl)
theorem nums_new (q : IntKind) (w : World) (t : TypeId) (arr : Array Value) (ds : List Nat) (cap : Nat) (hc : ds.length ≤ cap) (h : ∀ j, j < ds.length → arr[j]? = some (.int q ((dg ds j : Nat) : Int))) :
    Nums q (w.alloc (.cells arr t)) (.slice (some ⟨w.heap.size, 0, none⟩) ds.length cap) ds :=
  ⟨_, _, rfl, .inr ⟨w.heap.size, 0, rfl, hc, by simp, fun j hj => by rw [Nat.zero_add]; rw [World.cell?_alloc_new]; exact h j hj⟩⟩
def IsNat (w : World) (v : Value) (n : Nat) : Prop := ∃ ds, Nums .u32 w v ds ∧ Can 4294967296 ds ∧ val 4294967296 ds = n
theorem IsNat.below {B : Nat} {w w' : World} {v : Value} {n : Nat} (hb : Below B w w') (hB : w.heap.size ≤ B) : IsNat w v n → IsNat w' v n
  | ⟨ds, h, c⟩ => ⟨ds, h.below hb hB, c⟩
end Go.Proofs.YtcfgefbkeeedgaaGreat
