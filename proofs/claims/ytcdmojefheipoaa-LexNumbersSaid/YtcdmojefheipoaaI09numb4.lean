/-
  girdlelaw09.LexNumbers at its other forms, given what its first call answers.
-/
import Derived.Test.YtcdmojefheipoaaI09numbers
namespace Go.Proofs.Ytcdmojefheipoaa
open Go.RowKit

set_option maxRecDepth 100000 in
set_option maxHeartbeats 4000000 in
theorem lexNumbers_4 (HC : ∀ w, Calls Try.prog 8 #[] w fun e w' => e = .returned (.bool true) ∧ Below w.heap.size w w') (a b : Nat) (ha : a < 18446744073709551616) (hb : b < 18446744073709551616) (w : World) :
    Calls Try.prog 6 #[.int .u64 a, .int .u64 b, .int .i64 4] w fun e w' => e = .returned (.bool true) ∧ Below w.heap.size w w' := by
  go_enter Try.func6, Try.ntmps6
  go_wp2_with fail
  refine (HC w).mono ?_
  rintro e w1 ⟨rfl, hB⟩
  go_wp2_with fail
  refine (digits_any a w1 ha).mono ?_
  rintro e w2 ⟨⟨o, rfl, ho⟩, hB2⟩
  replace hB := hB.trans (hB2.mono hB.size)
  have hos := ho.size
  have q1 : (⟨#[46, 47]⟩ : ByteArray).extract 0 1 = ⟨#[46]⟩ := by rfl
  have hz1 : o.size + (⟨#[46]⟩ : ByteArray).size ≤ 9223372036854775807 := by show o.size + 1 ≤ _; omega
  go_wp2_with fail
  have HS := scan_f45 ho 46 (.inl rfl)
  generalize (o ++ ⟨#[46]⟩ : ByteArray) = s8 at HS ⊢
  refine (scan_any (between s8) w2).mono ?_
  rintro e w3 ⟨hs, hB3⟩
  unfold ScanOut at hs
  rw [HS] at hs
  subst hs
  replace hB := hB.trans (hB3.mono hB.size)
  have hA := hB.alloc hB.size (.cells #[.int .i64 2, .int .i64 1] 26)
  clear hB2 hB3 HS hB
  go_wp2_with fail
  go_ret
  exact ⟨rfl, hA⟩
set_option maxRecDepth 100000 in
set_option maxHeartbeats 4000000 in
theorem lexNumbers_5 (HC : ∀ w, Calls Try.prog 8 #[] w fun e w' => e = .returned (.bool true) ∧ Below w.heap.size w w') (a b : Nat) (ha : a < 18446744073709551616) (hb : b < 18446744073709551616) (w : World) :
    Calls Try.prog 6 #[.int .u64 a, .int .u64 b, .int .i64 5] w fun e w' => e = .returned (.bool true) ∧ Below w.heap.size w w' := by
  go_enter Try.func6, Try.ntmps6
  go_wp2_with fail
  refine (HC w).mono ?_
  rintro e w1 ⟨rfl, hB⟩
  go_wp2_with fail
  refine (digits_any a w1 ha).mono ?_
  rintro e w2 ⟨⟨o, rfl, ho⟩, hB2⟩
  replace hB := hB.trans (hB2.mono hB.size)
  have hos := ho.size
  have q1 : (⟨#[46, 47]⟩ : ByteArray).extract 1 2 = ⟨#[47]⟩ := by rfl
  have hz1 : o.size + (⟨#[47]⟩ : ByteArray).size ≤ 9223372036854775807 := by show o.size + 1 ≤ _; omega
  go_wp2_with fail
  have HS := scan_f45 ho 47 (.inr rfl)
  generalize (o ++ ⟨#[47]⟩ : ByteArray) = s8 at HS ⊢
  refine (scan_any (between s8) w2).mono ?_
  rintro e w3 ⟨hs, hB3⟩
  unfold ScanOut at hs
  rw [HS] at hs
  subst hs
  replace hB := hB.trans (hB3.mono hB.size)
  have hA := hB.alloc hB.size (.cells #[.int .i64 2, .int .i64 1] 26)
  clear hB2 hB3 HS hB
  go_wp2_with fail
  go_ret
  exact ⟨rfl, hA⟩

end Go.Proofs.Ytcdmojefheipoaa
