/-
  girdleref01.Power: a power of 2, as digits to the base 256.
-/
import Derived.Test.YtphhaaofkckobaaDoorRadd
namespace Go.Proofs.YtphhaaofkckobaaDoor
open Go.RowKit

/-- Noughts, and one digit behind them. -/
def oneAt (m x : Nat) : List Nat := List.replicate m 0 ++ [x]
theorem oneAt_len (m x : Nat) : (oneAt m x).length = m + 1 := by simp [oneAt]
theorem oneAt_val (m x : Nat) : val 256 (oneAt m x) = 256 ^ m * x := by unfold oneAt; rw [val_snoc, val_zeros]; simp
theorem oneAt_dg (m x : Nat) : dg (oneAt m x) m = x := by simp [dg, oneAt]
theorem oneAt_set (m x y : Nat) : (oneAt m x).set m y = oneAt m y := by
  unfold oneAt
  rw [List.set_append]
  simp
theorem oneAt_start (m : Nat) : List.replicate (m + 1) 0 = oneAt m 0 := by unfold oneAt; rw [List.replicate_succ']
theorem oneAt_can (m x : Nat) (h0 : 0 < x) (hx : x < 256) : Can 256 (oneAt m x) := by
  refine can_of_ge (by decide) (Dig.snoc (fun y hy => by simp at hy; omega) hx) fun _ => ?_
  rw [oneAt_len, oneAt_val, Nat.add_sub_cancel]
  exact Nat.le_mul_of_pos_right _ h0
theorem two_split (n : Nat) : 256 ^ (n / 8) * 2 ^ (n % 8) = 2 ^ n := by
  rw [show (256 : Nat) = 2 ^ 8 from rfl, ← Nat.pow_mul, ← Nat.pow_add, Nat.div_add_mod]

set_option maxRecDepth 100000 in
set_option maxHeartbeats 2000000 in
theorem refPow_any (n : Nat) (w : World) (hn : n ≤ 100000) :
    Calls Tryd.prog 29 #[.int .i64 n] w fun e w' => (∃ v, e = .returned v ∧ IsRef w' v (2 ^ n)) ∧ Below w.heap.size w w' := by
  have hnI : (n : Int) ≤ 100000 := by omega
  obtain ⟨m, hm⟩ : ∃ m, n / 8 = m := ⟨_, rfl⟩
  obtain ⟨r, hr⟩ : ∃ r, n % 8 = r := ⟨_, rfl⟩
  have hmI : (n : Int) / 8 = (m : Int) := by omega
  have hrI : (n : Int) % 8 = (r : Int) := by omega
  have hml : m ≤ 12500 := by omega
  have hrl : r < 8 := by omega
  have HM := Lib.hid (And.intro hm hr)
  have HMI := Lib.hid hmI; have HRI := Lib.hid hrI
  clear hm hr hmI hrI
  go_enter Tryd.func29, Tryd.ntmps29
  go_upto_region 2 with (at_make; refine make_ints rfl _ _ rfl _ _ (m + 1) rfl rfl ?hL ?hC ?hn w.heap.size w (Below.refl _ _) (Nat.le_refl _) (fun w1 hr1 hB1 hB1' => ?_))
  case hL => have := HMI.out; simp; omega
  case hC => have := HMI.out; simp; omega
  case hn => omega
  have hr1 : Row .i64 3 w1 w.heap.size (oneAt m 0) := by rw [← oneAt_start]; exact hr1
  have hs1 : Row .i64 3 (w1.setCell ⟨w.heap.size, m, none⟩ (.int .i64 1)) w.heap.size ((oneAt m 0).set m 1) := hr1.set m 1 (by rw [oneAt_len]; omega)
  have ho1 := hr1.cell (j := m) (by rw [oneAt_len]; omega)
  have hf1 := hr1.free m
  rw [oneAt_set] at hs1
  have HS1 := Lib.hid hs1
  have hmi : (m : Int) < (m : Int) + 1 := by omega
  have hr8 : r ≤ 7 := by omega
  have hBs := hB1.setCell (p := ⟨w.heap.size, m, none⟩) (Nat.le_refl _) (.int .i64 1)
  clear hs1 hr1 hB1'
  have hmI := HMI.out; have hrI := HRI.out
  go_upto_region 3 with fail
  obtain ⟨w2, hw2⟩ : ∃ w2, w1.setCell ⟨w.heap.size, m, none⟩ (.int .i64 1) = w2 := ⟨_, rfl⟩
  rw [hw2] at HS1 hBs ⊢
  clear hw2 ho1 hf1 hB1
  go_wp2_with fail
  go_loopw [4] (fun si wr => ∃ i : Nat, i ≤ r ∧ si = .int .i64 i ∧ Row .i64 3 wr w.heap.size (oneAt m (2 ^ i)) ∧ Below w.heap.size w wr) (fun si _ => r - (intOf si).toNat)
  case atStart => exact ⟨0, by omega, rfl, HS1.out, hBs⟩
  case round =>
    clear hBs HS1
    obtain ⟨i, hi, rfl, hrow, hB⟩ := hrel
    by_cases hlt : i < r
    · have hli : (i : Int) < (r : Int) := by omega
      have ho1 := hrow.cell (j := m) (by rw [oneAt_len]; omega)
      have hf1 := hrow.free m
      have hp : 2 ^ i ≤ 128 := by
        have := Nat.pow_le_pow_right (n := 2) (by decide) (show i ≤ 7 by omega)
        simpa using this
      have hs1 := hrow.set m (2 ^ (i + 1)) (by rw [oneAt_len]; omega)
      rw [oneAt_set] at hs1
      rw [oneAt_dg] at ho1
      have HS1 := Lib.hid hs1
      have HE := Lib.hid (Nat.pow_succ 2 i)
      clear hs1 hrow
      rw [HE.out] at HS1
      generalize 2 ^ i = x at *
      have hxI : (x : Int) ≤ 128 := by omega
      go_wp2
      go_roundw
      case rel =>
        refine ⟨i + 1, by omega, by go_num, ?_, hB.setCell (Nat.le_refl _) _⟩
        rw [HE.out]
        have := HS1.out
        rw [Int.natCast_mul] at this
        exact this
      case measure => simp [intOf]; omega
    · have hir : i = r := by omega
      subst hir
      go_wp2
      go_ret
      refine ⟨⟨_, rfl, oneAt m (2 ^ i), ?_, oneAt_can m _ (Nat.pow_pos (by decide)) ?_, ?_⟩, hB⟩
      · have := hrow.all (m + 1) (by rw [oneAt_len]; omega)
        rw [oneAt_len] at this
        exact this
      · exact Nat.lt_of_le_of_lt (Nat.pow_le_pow_right (by decide) hr8) (by decide)
      · rw [oneAt_val, ← HM.out.1, ← HM.out.2, two_split]

end Go.Proofs.YtphhaaofkckobaaDoor
