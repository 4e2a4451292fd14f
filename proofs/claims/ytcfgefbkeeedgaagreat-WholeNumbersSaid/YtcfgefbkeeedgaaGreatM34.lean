/-
  What the statement stands on.
-/
import Derived.Test.YtcfgefbkeeedgaaGreatM29
import Derived.Test.YtcfgefbkeeedgaaGreatM33
namespace Go.Proofs.YtcfgefbkeeedgaaGreat
open Go.RowKit
theorem wparse_to (s : ByteArray) (w : World) (x : Int) (ho : onlyB (restI (bs s)) = true) (hl : (restI (bs s)).length ≤ 4900) (hx : parseI (bs s) = x) :
    Calls Tryz.prog 34 #[.string s] w fun e w' => (∃ u, e = .returned (.tuple #[u, .int .i64 0]) ∧ IsInt w' u x) ∧ Below w.heap.size w w' := by
  subst hx; exact wparse_ok s w ho hl
end Go.Proofs.YtcfgefbkeeedgaaGreat
