/-
  girdlelaw09.LexNumbers, as a walk: whatever the numbers and the form, it returns true.
-/
import Derived.Test.YtcdmojefheipoaaI09numb2
import Derived.Test.YtcdmojefheipoaaI09numb4
import Derived.Test.YtcdmojefheipoaaI09cuts
namespace Go.Proofs.Ytcdmojefheipoaa
open Go.RowKit

theorem lexNumbers_any (a b : Nat) (k : Int) (w : World) (ha : a < 18446744073709551616) (hb : b < 18446744073709551616) :
    Calls Try.prog 6 #[.int .u64 a, .int .u64 b, .int .i64 k] w fun e w' => e = .returned (.bool true) ∧ Below w.heap.size w w' := by
  by_cases h1 : k < 1
  · exact lexNumbers_low cuts_any a b ha hb w k h1
  by_cases h2 : 6 < k
  · exact lexNumbers_high cuts_any a b ha hb w k h2
  obtain h | h | h | h | h | h : k = 1 ∨ k = 2 ∨ k = 3 ∨ k = 4 ∨ k = 5 ∨ k = 6 := by omega
  · subst h; exact lexNumbers_1 cuts_any a b ha w
  · subst h; exact lexNumbers_2 cuts_any a b ha hb w
  · subst h; exact lexNumbers_3 cuts_any a b ha hb w
  · subst h; exact lexNumbers_4 cuts_any a b ha hb w
  · subst h; exact lexNumbers_5 cuts_any a b ha hb w
  · subst h; exact lexNumbers_6 cuts_any a b ha hb w

end Go.Proofs.Ytcdmojefheipoaa
