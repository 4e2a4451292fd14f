/-
  lex.apart.
-/
import Derived.Test.YtcdmojefheipoaaLextok
namespace Go.Proofs.Ytcdmojefheipoaa
open Go.RowKit

/-- Whether a blank goes between two tokens of these kinds. -/
def apartK (a b : Nat) : Bool := decide (a ≠ 3) && decide (b ≠ 3) && decide (b ≠ 4)
def tkV (x : Tk) : Value := .agg #[.int .i64 x.k, .int .i64 x.a, .string x.t]
set_option maxRecDepth 100000 in
set_option maxHeartbeats 2000000 in
theorem apart_any (x y : Tk) (w : World) :
    Calls Try.prog 20 #[tkV x, tkV y] w fun e w' => e = .returned (.bool (apartK x.k y.k)) ∧ Below w.heap.size w w' := by
  obtain ⟨k1, a1, t1⟩ := x
  obtain ⟨k2, a2, t2⟩ := y
  obtain ⟨r, hr⟩ : ∃ r, apartK k1 k2 = r := ⟨_, rfl⟩
  show Calls Try.prog 20 #[.agg #[.int .i64 k1, .int .i64 a1, .string t1], .agg #[.int .i64 k2, .int .i64 a2, .string t2]] w fun e w' => e = .returned (.bool (apartK k1 k2)) ∧ Below w.heap.size w w'
  rw [hr]
  unfold apartK at hr
  have hB := ((Below.refl w.heap.size w).alloc (Nat.le_refl _) (.cells #[.int .i64 k1, .int .i64 a1, .string t1] 30)).alloc (by simp) (.cells #[.int .i64 k2, .int .i64 a2, .string t2] 30)
  by_cases h1 : k1 = 3
  · have e1 : ((k1 : Int) != 3) = false := by rw [h1]; rfl
    have : r = false := by rw [← hr, h1]; rfl
    subst this
    clear h1 hr
    go_enter Try.func20, Try.ntmps20
    go_wp2
    go_ret
    exact ⟨rfl, hB⟩
  have e1 : ((k1 : Int) != 3) = true := by rw [bne_iff_ne]; omega
  by_cases h2 : k2 = 3
  · have e2 : ((k2 : Int) != 3) = false := by rw [h2]; rfl
    have : r = false := by rw [← hr, h2]; simp
    subst this
    clear h1 h2 hr
    go_enter Try.func20, Try.ntmps20
    go_wp2
    go_ret
    exact ⟨rfl, hB⟩
  have e2 : ((k2 : Int) != 3) = true := by rw [bne_iff_ne]; omega
  by_cases h3 : k2 = 4
  · have e3 : ((k2 : Int) != 4) = false := by rw [h3]; rfl
    have : r = false := by rw [← hr, h3]; simp
    subst this
    clear h1 h2 h3 hr
    go_enter Try.func20, Try.ntmps20
    go_wp2
    go_ret
    exact ⟨rfl, hB⟩
  have e3 : ((k2 : Int) != 4) = true := by rw [bne_iff_ne]; omega
  have : r = true := by rw [← hr]; simp [h1, h2, h3]
  subst this
  clear h1 h2 h3 hr
  go_enter Try.func20, Try.ntmps20
  go_wp2
  go_ret
  exact ⟨rfl, hB⟩

end Go.Proofs.Ytcdmojefheipoaa
