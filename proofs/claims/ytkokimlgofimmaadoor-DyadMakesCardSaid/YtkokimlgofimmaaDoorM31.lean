/-
  A whole number that may be tried, as one.
-/
import Derived.Test.YtkokimlgofimmaaDoorM14

namespace Go.Proofs.YtkokimlgofimmaaDoor
open Go.RowKit

theorem tried_int {b : Bool} {ds : List Nat} {k l : Nat} {p : Option Addr} {K : Nat} {w : World} (h : Tried3 k b ds) (hd : Dig 4294967296 ds) (hl : ds.length = l) (hat : At .u32 w p K ds) :
    ∃ z : Int, Hid (negB z = b) ∧ z.natAbs < NB k ∧ IsNat w (.slice p l K) z.natAbs := by
  subst hl
  have hc : Can 4294967296 ds := ⟨hd, h.2.1⟩
  have hb := nb_len hc h.1
  have hn : IsNat w (.slice p ds.length K) (val 4294967296 ds) := ⟨ds, hat.nums, hc, rfl⟩
  cases b with
  | false =>
    refine ⟨(val 4294967296 ds : Nat), negB_neg (by omega), ?_, ?_⟩
    · simpa using hb
    · simpa using hn
  | true =>
    have h0 : val 4294967296 ds ≠ 0 := fun e => h.2.2 rfl (hc.eq_nil (by decide) e)
    refine ⟨-((val 4294967296 ds : Nat) : Int), negB_pos (by omega), ?_, ?_⟩
    · simpa using hb
    · simpa using hn

end Go.Proofs.YtkokimlgofimmaaDoor
