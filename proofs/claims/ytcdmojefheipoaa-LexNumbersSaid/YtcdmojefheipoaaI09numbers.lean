/-
  girdlelaw09.LexNumbers, given what its first call answers.
-/
import Derived.Test.YtcdmojefheipoaaI09nums
namespace Go.Proofs.Ytcdmojefheipoaa
open Go.RowKit

/-- Two tokens that a call has laid: where they lie. -/
theorem Toks.two {w : World} {base : Nat} {v : Value} {x y : Tk} (h : Toks w base v [x, y]) : ∃ g c, v = .slice (some ⟨g, 0, none⟩) 2 c ∧ w.cell? ⟨g, 0, none⟩ = some (.int .i64 x.k) ∧ w.cell? ⟨g, 1, none⟩ = some (.int .i64 x.a) ∧ w.cell? ⟨g, 2, none⟩ = some (.string x.t) ∧ g < w.heap.size := by
  have hc : ∀ {g : Nat}, v.ownBlock = some g → _ := fun {g} hg => World.ownsRow.cells h (g := g) hg
  obtain ⟨_, h1 | ⟨g, c, cur, rfl, _, hg, _⟩⟩ := h
  · exact absurd h1.2 (by simp)
  · have e := hc (g := g) rfl
    refine ⟨g, c, rfl, ?_, ?_, ?_, lt_of_heap hg⟩
    · have := e 0 _ rfl; simpa [Addr.add] using this
    · have := e 1 _ rfl; simpa [Addr.add] using this
    · have := e 2 _ rfl; simpa [Addr.add] using this

set_option maxRecDepth 100000 in
set_option maxHeartbeats 4000000 in
theorem lexNumbers_1 (HC : ∀ w, Calls Try.prog 8 #[] w fun e w' => e = .returned (.bool true) ∧ Below w.heap.size w w') (a b : Nat) (ha : a < 18446744073709551616) (w : World) :
    Calls Try.prog 6 #[.int .u64 a, .int .u64 b, .int .i64 1] w fun e w' => e = .returned (.bool true) ∧ Below w.heap.size w w' := by
  go_enter Try.func6, Try.ntmps6
  go_wp2_with fail
  refine (HC w).mono ?_
  rintro e w1 ⟨rfl, hB⟩
  go_wp2_with fail
  refine (digits_any a w1 ha).mono ?_
  rintro e w2 ⟨⟨o, rfl, ho⟩, hB2⟩
  replace hB := hB.trans (hB2.mono hB.size)
  have hos := ho.size
  have hz1 : (⟨#[45]⟩ : ByteArray).size + o.size ≤ 9223372036854775807 := by show 1 + o.size ≤ _; omega
  go_wp2_with fail
  have HS := scan_f1 ho
  generalize (⟨#[45]⟩ ++ o : ByteArray) = s8 at HS ⊢
  refine (scan_any (between s8) w2).mono ?_
  rintro e w3 ⟨hs, hB3⟩
  unfold ScanOut at hs
  rw [HS] at hs
  obtain ⟨v, rfl, hT⟩ := hs
  obtain ⟨g, c, rfl, d0, d1, d2, hg⟩ := hT.two
  replace d0 : w3.cell? ⟨g, 0, none⟩ = some (.int .i64 1) := d0
  replace d1 : w3.cell? ⟨g, 1, none⟩ = some (.int .i64 1) := d1
  replace d2 : w3.cell? ⟨g, 2, none⟩ = some (.string s8) := d2
  replace hB := hB.trans (hB3.mono hB.size)
  have hA := hB.alloc hB.size (.cells #[.int .i64 0, .int .i64 0] 26)
  have hne : g ≠ w3.heap.size := Nat.ne_of_lt hg
  have e0 := (World.cell?_alloc_old w3 (.cells #[.int .i64 0, .int .i64 0] 26) ⟨g, 0, none⟩ hne).trans d0
  have e1 := (World.cell?_alloc_old w3 (.cells #[.int .i64 0, .int .i64 0] 26) ⟨g, 1, none⟩ hne).trans d1
  have e2 := (World.cell?_alloc_old w3 (.cells #[.int .i64 0, .int .i64 0] 26) ⟨g, 2, none⟩ hne).trans d2
  clear hB2 hB3 hT HS hne hg d0 d1 d2 ho hos hz1 hB
  go_wp2_with fail
  go_ret
  exact ⟨rfl, hA⟩

end Go.Proofs.Ytcdmojefheipoaa
