/-
  girdlelaw09.LexNumbers at its other forms, given what its first call answers.
-/
import Derived.Test.YtcdmojefheipoaaI09numbers
namespace Go.Proofs.Ytcdmojefheipoaa
open Go.RowKit

set_option maxRecDepth 100000 in
set_option maxHeartbeats 4000000 in
theorem lexNumbers_2 (HC : ∀ w, Calls Try.prog 8 #[] w fun e w' => e = .returned (.bool true) ∧ Below w.heap.size w w') (a b : Nat) (ha : a < 18446744073709551616) (hb : b < 18446744073709551616) (w : World) :
    Calls Try.prog 6 #[.int .u64 a, .int .u64 b, .int .i64 2] w fun e w' => e = .returned (.bool true) ∧ Below w.heap.size w w' := by
  go_enter Try.func6, Try.ntmps6
  go_wp2_with fail
  refine (HC w).mono ?_
  rintro e w1 ⟨rfl, hB⟩
  go_wp2_with fail
  refine (digits_any a w1 ha).mono ?_
  rintro e w2 ⟨⟨o, rfl, ho⟩, hB2⟩
  replace hB := hB.trans (hB2.mono hB.size)
  have hos := ho.size
  go_wp2_with fail
  refine (digits_any b w2 hb).mono ?_
  rintro e w2b ⟨⟨r, rfl, hr⟩, hB2b⟩
  replace hB := hB.trans (hB2b.mono hB.size)
  have hrs := hr.size
  clear hB2b
  have hz1 : (⟨#[46]⟩ : ByteArray).size + r.size ≤ 9223372036854775807 := by show 1 + r.size ≤ _; omega
  have hz2 : o.size + (⟨#[46]⟩ ++ r : ByteArray).size ≤ 9223372036854775807 := by rw [ByteArray.size_append]; show o.size + (1 + r.size) ≤ _; omega
  go_wp2_with fail
  have HS := scan_f23 ho hr 46 (.inl rfl)
  generalize (o ++ (⟨#[46]⟩ ++ r) : ByteArray) = s8 at HS ⊢
  refine (scan_any (between s8) w2b).mono ?_
  rintro e w3 ⟨hs, hB3⟩
  unfold ScanOut at hs
  rw [HS] at hs
  obtain ⟨v, rfl, hT⟩ := hs
  obtain ⟨g, c, rfl, d0, d1, d2, hg⟩ := hT.two
  replace d0 : w3.cell? ⟨g, 0, none⟩ = some (.int .i64 1) := d0
  replace d1 : w3.cell? ⟨g, 1, none⟩ = some (.int .i64 1) := d1
  replace d2 : w3.cell? ⟨g, 2, none⟩ = some (.string s8) := d2
  replace hB := hB.trans (hB3.mono hB.size)
  have hA := hB.alloc hB.size (.cells #[.int .i64 0, .int .i64 0] 26)
  have hne : g ≠ w3.heap.size := Nat.ne_of_lt hg
  have e0 := (World.cell?_alloc_old w3 (.cells #[.int .i64 0, .int .i64 0] 26) ⟨g, 0, none⟩ hne).trans d0
  have e1 := (World.cell?_alloc_old w3 (.cells #[.int .i64 0, .int .i64 0] 26) ⟨g, 1, none⟩ hne).trans d1
  have e2 := (World.cell?_alloc_old w3 (.cells #[.int .i64 0, .int .i64 0] 26) ⟨g, 2, none⟩ hne).trans d2
  clear hB2 hB3 hT HS hne hg d0 d1 d2 ho hos hB
  go_wp2_with fail
  go_ret
  exact ⟨rfl, hA⟩
set_option maxRecDepth 100000 in
set_option maxHeartbeats 4000000 in
theorem lexNumbers_3 (HC : ∀ w, Calls Try.prog 8 #[] w fun e w' => e = .returned (.bool true) ∧ Below w.heap.size w w') (a b : Nat) (ha : a < 18446744073709551616) (hb : b < 18446744073709551616) (w : World) :
    Calls Try.prog 6 #[.int .u64 a, .int .u64 b, .int .i64 3] w fun e w' => e = .returned (.bool true) ∧ Below w.heap.size w w' := by
  go_enter Try.func6, Try.ntmps6
  go_wp2_with fail
  refine (HC w).mono ?_
  rintro e w1 ⟨rfl, hB⟩
  go_wp2_with fail
  refine (digits_any a w1 ha).mono ?_
  rintro e w2 ⟨⟨o, rfl, ho⟩, hB2⟩
  replace hB := hB.trans (hB2.mono hB.size)
  have hos := ho.size
  go_wp2_with fail
  refine (digits_any b w2 hb).mono ?_
  rintro e w2b ⟨⟨r, rfl, hr⟩, hB2b⟩
  replace hB := hB.trans (hB2b.mono hB.size)
  have hrs := hr.size
  clear hB2b
  have hz1 : (⟨#[47]⟩ : ByteArray).size + r.size ≤ 9223372036854775807 := by show 1 + r.size ≤ _; omega
  have hz2 : o.size + (⟨#[47]⟩ ++ r : ByteArray).size ≤ 9223372036854775807 := by rw [ByteArray.size_append]; show o.size + (1 + r.size) ≤ _; omega
  go_wp2_with fail
  have HS := scan_f23 ho hr 47 (.inr rfl)
  generalize (o ++ (⟨#[47]⟩ ++ r) : ByteArray) = s8 at HS ⊢
  refine (scan_any (between s8) w2b).mono ?_
  rintro e w3 ⟨hs, hB3⟩
  unfold ScanOut at hs
  rw [HS] at hs
  obtain ⟨v, rfl, hT⟩ := hs
  obtain ⟨g, c, rfl, d0, d1, d2, hg⟩ := hT.two
  replace d0 : w3.cell? ⟨g, 0, none⟩ = some (.int .i64 1) := d0
  replace d1 : w3.cell? ⟨g, 1, none⟩ = some (.int .i64 1) := d1
  replace d2 : w3.cell? ⟨g, 2, none⟩ = some (.string s8) := d2
  replace hB := hB.trans (hB3.mono hB.size)
  have hA := hB.alloc hB.size (.cells #[.int .i64 0, .int .i64 0] 26)
  have hne : g ≠ w3.heap.size := Nat.ne_of_lt hg
  have e0 := (World.cell?_alloc_old w3 (.cells #[.int .i64 0, .int .i64 0] 26) ⟨g, 0, none⟩ hne).trans d0
  have e1 := (World.cell?_alloc_old w3 (.cells #[.int .i64 0, .int .i64 0] 26) ⟨g, 1, none⟩ hne).trans d1
  have e2 := (World.cell?_alloc_old w3 (.cells #[.int .i64 0, .int .i64 0] 26) ⟨g, 2, none⟩ hne).trans d2
  clear hB2 hB3 hT HS hne hg d0 d1 d2 ho hos hB
  go_wp2_with fail
  go_ret
  exact ⟨rfl, hA⟩
set_option maxRecDepth 100000 in
set_option maxHeartbeats 4000000 in
theorem lexNumbers_6 (HC : ∀ w, Calls Try.prog 8 #[] w fun e w' => e = .returned (.bool true) ∧ Below w.heap.size w w') (a b : Nat) (ha : a < 18446744073709551616) (hb : b < 18446744073709551616) (w : World) :
    Calls Try.prog 6 #[.int .u64 a, .int .u64 b, .int .i64 6] w fun e w' => e = .returned (.bool true) ∧ Below w.heap.size w w' := by
  go_enter Try.func6, Try.ntmps6
  go_wp2_with fail
  refine (HC w).mono ?_
  rintro e w1 ⟨rfl, hB⟩
  go_wp2_with fail
  refine (digits_any a w1 ha).mono ?_
  rintro e w2 ⟨⟨o, rfl, ho⟩, hB2⟩
  replace hB := hB.trans (hB2.mono hB.size)
  have hos := ho.size
  go_wp2_with fail
  have HS := scan_f6
  generalize (⟨#[45]⟩ : ByteArray) = s8 at HS ⊢
  refine (scan_any (between s8) w2).mono ?_
  rintro e w3 ⟨hs, hB3⟩
  unfold ScanOut at hs
  rw [HS] at hs
  subst hs
  replace hB := hB.trans (hB3.mono hB.size)
  have hA := hB.alloc hB.size (.cells #[.int .i64 2, .int .i64 1] 26)
  clear hB2 hB3 HS hB
  go_wp2_with fail
  go_ret
  exact ⟨rfl, hA⟩
set_option maxRecDepth 100000 in
set_option maxHeartbeats 4000000 in
theorem lexNumbers_low (HC : ∀ w, Calls Try.prog 8 #[] w fun e w' => e = .returned (.bool true) ∧ Below w.heap.size w w') (a b : Nat) (ha : a < 18446744073709551616) (hb : b < 18446744073709551616) (w : World) (k : Int) (hk : k < 1) :
    Calls Try.prog 6 #[.int .u64 a, .int .u64 b, .int .i64 k] w fun e w' => e = .returned (.bool true) ∧ Below w.heap.size w w' := by
  have k1 : (k == 1) = false := by rw [beq_eq_false_iff_ne]; omega
  have k2 : (k == 2) = false := by rw [beq_eq_false_iff_ne]; omega
  have k3 : (k == 3) = false := by rw [beq_eq_false_iff_ne]; omega
  have k4 : (k == 4) = false := by rw [beq_eq_false_iff_ne]; omega
  have k5 : (k == 5) = false := by rw [beq_eq_false_iff_ne]; omega
  have k6 : (k == 6) = false := by rw [beq_eq_false_iff_ne]; omega
  have k7 : ¬ 4 ≤ k := by omega
  go_enter Try.func6, Try.ntmps6
  go_wp2_with fail
  refine (HC w).mono ?_
  rintro e w1 ⟨rfl, hB⟩
  go_wp2_with fail
  refine (digits_any a w1 ha).mono ?_
  rintro e w2 ⟨⟨o, rfl, ho⟩, hB2⟩
  replace hB := hB.trans (hB2.mono hB.size)
  have hos := ho.size
  go_wp2_with fail
  have HS := scan_f0 ho
  refine (scan_any (between o) w2).mono ?_
  rintro e w3 ⟨hs, hB3⟩
  unfold ScanOut at hs
  rw [HS] at hs
  obtain ⟨v, rfl, hT⟩ := hs
  obtain ⟨g, c, rfl, d0, d1, d2, hg⟩ := hT.two
  replace d0 : w3.cell? ⟨g, 0, none⟩ = some (.int .i64 1) := d0
  replace d1 : w3.cell? ⟨g, 1, none⟩ = some (.int .i64 1) := d1
  replace d2 : w3.cell? ⟨g, 2, none⟩ = some (.string o) := d2
  replace hB := hB.trans (hB3.mono hB.size)
  have hA := hB.alloc hB.size (.cells #[.int .i64 0, .int .i64 0] 26)
  have hne : g ≠ w3.heap.size := Nat.ne_of_lt hg
  have e0 := (World.cell?_alloc_old w3 (.cells #[.int .i64 0, .int .i64 0] 26) ⟨g, 0, none⟩ hne).trans d0
  have e1 := (World.cell?_alloc_old w3 (.cells #[.int .i64 0, .int .i64 0] 26) ⟨g, 1, none⟩ hne).trans d1
  have e2 := (World.cell?_alloc_old w3 (.cells #[.int .i64 0, .int .i64 0] 26) ⟨g, 2, none⟩ hne).trans d2
  clear hB2 hB3 hT HS hne hg d0 d1 d2 ho hos hB
  go_wp2_with fail
  go_ret
  exact ⟨rfl, hA⟩
set_option maxRecDepth 100000 in
set_option maxHeartbeats 4000000 in
theorem lexNumbers_high (HC : ∀ w, Calls Try.prog 8 #[] w fun e w' => e = .returned (.bool true) ∧ Below w.heap.size w w') (a b : Nat) (ha : a < 18446744073709551616) (hb : b < 18446744073709551616) (w : World) (k : Int) (hk : 6 < k) :
    Calls Try.prog 6 #[.int .u64 a, .int .u64 b, .int .i64 k] w fun e w' => e = .returned (.bool true) ∧ Below w.heap.size w w' := by
  have k1 : (k == 1) = false := by rw [beq_eq_false_iff_ne]; omega
  have k2 : (k == 2) = false := by rw [beq_eq_false_iff_ne]; omega
  have k3 : (k == 3) = false := by rw [beq_eq_false_iff_ne]; omega
  have k4 : (k == 4) = false := by rw [beq_eq_false_iff_ne]; omega
  have k5 : (k == 5) = false := by rw [beq_eq_false_iff_ne]; omega
  have k6 : (k == 6) = false := by rw [beq_eq_false_iff_ne]; omega
  have k7 : 4 ≤ k := by omega
  have k8 : ¬ k ≤ 6 := by omega
  go_enter Try.func6, Try.ntmps6
  go_wp2_with fail
  refine (HC w).mono ?_
  rintro e w1 ⟨rfl, hB⟩
  go_wp2_with fail
  refine (digits_any a w1 ha).mono ?_
  rintro e w2 ⟨⟨o, rfl, ho⟩, hB2⟩
  replace hB := hB.trans (hB2.mono hB.size)
  have hos := ho.size
  go_wp2_with fail
  have HS := scan_f0 ho
  refine (scan_any (between o) w2).mono ?_
  rintro e w3 ⟨hs, hB3⟩
  unfold ScanOut at hs
  rw [HS] at hs
  obtain ⟨v, rfl, hT⟩ := hs
  obtain ⟨g, c, rfl, d0, d1, d2, hg⟩ := hT.two
  replace d0 : w3.cell? ⟨g, 0, none⟩ = some (.int .i64 1) := d0
  replace d1 : w3.cell? ⟨g, 1, none⟩ = some (.int .i64 1) := d1
  replace d2 : w3.cell? ⟨g, 2, none⟩ = some (.string o) := d2
  replace hB := hB.trans (hB3.mono hB.size)
  have hA := hB.alloc hB.size (.cells #[.int .i64 0, .int .i64 0] 26)
  have hne : g ≠ w3.heap.size := Nat.ne_of_lt hg
  have e0 := (World.cell?_alloc_old w3 (.cells #[.int .i64 0, .int .i64 0] 26) ⟨g, 0, none⟩ hne).trans d0
  have e1 := (World.cell?_alloc_old w3 (.cells #[.int .i64 0, .int .i64 0] 26) ⟨g, 1, none⟩ hne).trans d1
  have e2 := (World.cell?_alloc_old w3 (.cells #[.int .i64 0, .int .i64 0] 26) ⟨g, 2, none⟩ hne).trans d2
  clear hB2 hB3 hT HS hne hg d0 d1 d2 ho hos hB
  go_wp2_with fail
  go_ret
  exact ⟨rfl, hA⟩

end Go.Proofs.Ytcdmojefheipoaa
