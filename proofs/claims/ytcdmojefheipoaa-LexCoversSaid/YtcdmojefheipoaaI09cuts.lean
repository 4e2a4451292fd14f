/-
  girdlelaw09.cuts: a line of seven tokens.
-/
import Derived.Test.YtcdmojefheipoaaLexlit
import Derived.Test.YtcdmojefheipoaaLexjoin
import Derived.Outline
namespace Go.Proofs.Ytcdmojefheipoaa
open Go.RowKit

/-- Tokens that a call has laid: where they lie. -/
theorem Toks.at {w : World} {base : Nat} {v : Value} {l : List Tk} (h : Toks w base v l) (hl : l ≠ []) : ∃ g c, v = .slice (some ⟨g, 0, none⟩) l.length c ∧ TokAt w g l ∧ g < w.heap.size ∧ l.length ≤ c ∧ base ≤ g := by
  have hc : ∀ {g : Nat}, v.ownBlock = some g → _ := fun {g} hg => World.ownsRow.cells h (g := g) hg
  obtain ⟨_, h1 | ⟨g, c, cur, rfl, hb, hg, hle, _⟩⟩ := h
  · exact absurd h1.2 (by
      match l, hl with
      | t :: l, _ => simp [tokCells])
  · have e := hc (g := g) rfl
    refine ⟨g, c, rfl, fun j t ht => ?_, lt_of_heap hg, hle, hb⟩
    have get : ∀ (l : List Tk) (j : Nat) (t : Tk), l[j]? = some t → (tokCells l)[j * 3]? = some (.int .i64 t.k) ∧ (tokCells l)[j * 3 + 1]? = some (.int .i64 t.a) ∧ (tokCells l)[j * 3 + 2]? = some (.string t.t) := by
      intro l
      induction l with
      | nil => intro j t h; simp at h
      | cons x l ih =>
        intro j t h
        match j with
        | 0 => cases h; exact ⟨rfl, rfl, rfl⟩
        | j + 1 =>
          have := ih j t (by simpa using h)
          rw [show (j + 1) * 3 = j * 3 + 1 + 1 + 1 by omega]
          exact this
    obtain ⟨g0, g1, g2⟩ := get l j t ht
    have k0 := e _ _ g0
    have k1 := e _ _ g1
    have k2 := e _ _ g2
    have ea : ∀ o, (⟨g, 0, none⟩ : Addr).add o = ⟨g, o, none⟩ := fun o => by unfold Addr.add; split <;> simp_all
    rw [ea] at k0 k1 k2
    exact ⟨k0, k1, k2⟩

set_option maxRecDepth 100000 in
set_option maxHeartbeats 8000000 in
theorem cuts_any (w : World) : Calls Try.prog 8 #[] w fun e w' => e = .returned (.bool true) ∧ Below w.heap.size w w' := by
  have HS1 := Lib.hid (fun w : World => scan_any cutT1 w)
  have HS2 := Lib.hid (fun w : World => scan_any cutT2 w)
  go_enter Try.func8, Try.ntmps8
  go_wp2_with fail
  refine (HS1.out _).mono ?_
  rintro e w1 ⟨hs, hB⟩
  unfold ScanOut at hs
  rw [cut1_is] at hs
  obtain ⟨v, rfl, hT⟩ := hs
  obtain ⟨g, c, rfl, hT, hg, hc, hbg⟩ := hT.at (by decide)
  have hc10 : (10 : Nat) ≤ c := hc
  have HT := Lib.hid (And.intro hT hg)
  rw [show cutL1.length = 10 from rfl]
  clear hT hg hc HS1
  go_wp2_with fail
  have hA : Below w1.heap.size w1 (w1.alloc (.cells #[.int .i64 0, .int .i64 0] 26)) := (Below.refl _ _).alloc (Nat.le_refl _) _
  have d0 : (w1.alloc (.cells #[.int .i64 0, .int .i64 0] 26)).heap[w1.heap.size]? = _ := World.alloc_heap_new w1 _
  replace hB := hB.trans (hA.mono hB.size)
  have hT2 := HT.out.1.to HT.out.2 hA
  have hg2 := Nat.lt_of_lt_of_le HT.out.2 hA.size
  replace HT := Lib.hid (And.intro hT2 hg2)
  clear hT2 hg2 hA
  generalize hw0 : w1.heap.size = f at d0 ⊢
  generalize (w1.alloc (.cells #[.int .i64 0, .int .i64 0] 26)) = W1 at HT hB d0 ⊢
  have hf := lt_of_heap d0
  refine (HS2.out _).mono ?_
  rintro e w2 ⟨hs, hB2⟩
  unfold ScanOut at hs
  rw [cut2_is] at hs
  subst hs
  have d1 := (hB2.block f hf).trans d0
  have hA : Below w2.heap.size w2 (w2.alloc (.cells #[.int .i64 2, .int .i64 2] 26)) := (Below.refl _ _).alloc (Nat.le_refl _) _
  have hT2 := (HT.out.1.to HT.out.2 hB2).to (Nat.lt_of_lt_of_le HT.out.2 hB2.size) hA
  have d2 := (hA.block f (lt_of_heap d1)).trans d1
  replace hB := (hB.trans (hB2.mono hB.size)).trans (hA.mono (Nat.le_trans hB.size hB2.size))
  have hg2 := Nat.lt_of_lt_of_le (Nat.lt_of_lt_of_le HT.out.2 hB2.size) hA.size
  have e0 : (w2.alloc (.cells #[.int .i64 2, .int .i64 2] 26)).cell? ⟨f, 0, none⟩ = some (.int .i64 0) := by rw [Lib.cell_of_heap d2]; rfl
  have e1 : (w2.alloc (.cells #[.int .i64 2, .int .i64 2] 26)).cell? ⟨f, 1, none⟩ = some (.int .i64 0) := by rw [Lib.cell_of_heap d2]; rfl
  have a0 : _ = some (Value.int .i64 0) := (hT2 0 _ rfl).1
  have a2 : _ = some (Value.int .i64 1) := (hT2 2 _ rfl).1
  have b2 : _ = some (Value.string ⟨#[45, 49, 47, 50]⟩) := (hT2 2 _ rfl).2.2
  have a6 : _ = some (Value.int .i64 2) := (hT2 6 _ rfl).1
  have b6 : _ = some (Value.string ⟨#[62, 61]⟩) := (hT2 6 _ rfl).2.2
  have a8 : _ = some (Value.int .i64 3) := (hT2 8 _ rfl).1
  have a9 : _ = some (Value.int .i64 4) := (hT2 9 _ rfl).1
  have b9 : _ = some (Value.int .i64 24) := (hT2 9 _ rfl).2.1
  simp only [Nat.zero_mul, Nat.reduceMul, Nat.reduceAdd] at a0 a2 b2 a6 b6 a8 a9 b9
  have HT2 := Lib.hid (And.intro hT2 hg2)
  have hc3 : (3 : Int) ≤ (c : Int) := by omega
  clear hT2 hg2 hA d0 d1 d2 hB2 HT HS2 hf hw0
  go_wp2_with fail
  have hj : (⟨(joinU none (cutL1.take 3)).toArray⟩ : ByteArray) = ⟨#[97, 32, 91, 32, 45, 49, 47, 50]⟩ := by decide +kernel
  have HJ := join_any (cutL1.take 3) g c _ (fun j t h => HT2.out.1 j t (by
    rw [List.getElem?_take] at h
    split at h
    · exact h
    · cases h)) HT2.out.2 (by decide) (by decide)
  rw [hj] at HJ
  replace HJ := Lib.hid HJ
  clear hj
  refine HJ.out.mono ?_
  rintro e w3 ⟨rfl, hB3⟩
  clear HJ
  go_wp2_with fail
  go_ret
  exact ⟨rfl, hB.trans (hB3.mono hB.size)⟩

end Go.Proofs.Ytcdmojefheipoaa
