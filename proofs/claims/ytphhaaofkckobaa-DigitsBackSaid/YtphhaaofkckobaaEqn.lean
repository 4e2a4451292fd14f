/-
  slices.Equal over digits, as numbers.
-/
import Derived.Test.YtphhaaofkckobaaRback
import Derived.Test.YtphhaaofkckobaaEqual
namespace Go.Proofs.Ytphhaaofkckobaa
open Go.RowKit

/-- Are both the same number? (behind a name that no walk takes apart) -/
def sameB (m n : Nat) : Bool := decide (m = n)
theorem sameB_pos {m n : Nat} (h : m = n) : sameB m n = true := decide_eq_true h
theorem sameB_neg {m n : Nat} (h : m ≠ n) : sameB m n = false := decide_eq_false h

theorem equal_nums {va vb : Value} {m n : Nat} {w : World} (ha : IsNat w va m) (hb : IsNat w vb n) (hm : m < maxN) :
    Calls Try.prog 20 #[va, vb] w fun e w' => e = .returned (.bool (sameB m n)) ∧ Below w.heap.size w w' := by
  obtain ⟨ds, ⟨p1, K1, rfl, at1⟩, c1, v1⟩ := ha
  obtain ⟨es, ⟨p2, K2, rfl, at2⟩, c2, v2⟩ := hb
  have hl : ds.length ≤ 512 := c1.len_max.2 (by omega)
  have h := equal_u32 p1 p2 K1 K2 ds es w at1 at2 (by omega)
  have e : decide (ds = es) = sameB m n := by
    unfold sameB
    rw [Bool.eq_iff_iff, decide_eq_true_iff, decide_eq_true_iff]
    exact ⟨fun e => by rw [← v1, ← v2, e], fun e => Can.uniq (by decide) c1 c2 (by rw [v1, v2, e])⟩
  rw [e] at h
  exact h

end Go.Proofs.Ytphhaaofkckobaa
