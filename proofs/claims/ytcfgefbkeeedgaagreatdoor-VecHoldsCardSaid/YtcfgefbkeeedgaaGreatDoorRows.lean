/-
  NARROWER THAN 'FOR EVERY INPUT', by the rows' own cells (each row's printed sentence says how): SpanHolds: laid · SpanSets: laid · VecReckons: laid · VecScales: laid · VecHolds: laid · VecShapes: laid · VecUnits: laid · WholeHeld: laid.
  DERIVED. THE GIVEN ROWS OF THIS SEAT. 8 by the template 'for every input the law returns true; each argument reads behind the call as it read before'; 0 by the template 'total and deterministic' (their statements: YtcfgefbkeeedgaaGreatDoorTotals.lean).
  GIVEN WITH THE SEED: the statements are not yours to turn. If you find one false, say at which input.
  Laid BY PROGRAM, IN A SANDBOX (cutbox-rows.mjs): the forced cells as the released guide's own fill.sh prints them over the translation 5d219bef4bd0fcc2… (all of the seat's roots in one cut). By AI agents, Wed Nov 11 2026. No macro, syntax, notation, axiom, sorry.
-/
import Derived.Test.YtcfgefbkeeedgaaGreatDoorChecked
import GoSem.Claim
import GoSem.ClaimJoined
import GoSem.ClaimMapViews
import Derived.JoinedTies
import Derived.KernelRfl
namespace Go.Proofs.YtcfgefbkeeedgaaGreatDoor
/- THE CELL 'sum', in the pinned program and in every row, IS THE sha256 OF THE DUMP (.gsa) THAT YtcfgefbkeeedgaaGreatDoorProg.lean LOADS. Nothing in Lean hashes anything: it is a label: what it is worth is what the hold of that sum in a sandbox is worth. -/
noncomputable def Tryz.pinned : Pinned := { name := "ytcfgefbkeeedgaagreatdoor", sum := "5d219bef4bd0fcc2bc17b28121200016ddef3f275582421619f15528fd2534d7", checked := Tryz.checked }
namespace Rows
def none {H : Type} : Left H := { results := [], args := [] }

/- WHAT THE LISTED PACKAGE-LEVEL VARIABLES READ AS WHEN THE CALL BEGINS. Each datum BY PROGRAM (the guide's laid-datum.mjs) off the statement by which the dump's own 'gosem.cut.vars' lays the variable. In a bare row this is a premise. The card (YtcfgefbkeeedgaaGreatDoorCards.lean) ties it to the program's text. -/
def laid_math_bits_deBruijn32tab {H : Type} : DataW H := .agg [.lit (.int .u8 0), .lit (.int .u8 1), .lit (.int .u8 28), .lit (.int .u8 2), .lit (.int .u8 29), .lit (.int .u8 14), .lit (.int .u8 24), .lit (.int .u8 3), .lit (.int .u8 30), .lit (.int .u8 22), .lit (.int .u8 20), .lit (.int .u8 15), .lit (.int .u8 25), .lit (.int .u8 17), .lit (.int .u8 4), .lit (.int .u8 8), .lit (.int .u8 31), .lit (.int .u8 27), .lit (.int .u8 13), .lit (.int .u8 23), .lit (.int .u8 21), .lit (.int .u8 19), .lit (.int .u8 16), .lit (.int .u8 7), .lit (.int .u8 26), .lit (.int .u8 12), .lit (.int .u8 18), .lit (.int .u8 6), .lit (.int .u8 11), .lit (.int .u8 5), .lit (.int .u8 10), .lit (.int .u8 9)]

/-- 'girdlelaw06.SpanHolds': WHATEVER THE INPUT: true; the input reads as it did. -/
def spanHoldsSpec : ChangeSpec := { name := "spanHolds", fn := fun _ => fun
  | [d1, d2, d3] => { results := [.lit (.bool true)], args := [d1, d2, d3] }
  | _ => none }
def spanHoldsRow : OpenClaim := { program := "ytcfgefbkeeedgaagreatdoor", sum := "5d219bef4bd0fcc2bc17b28121200016ddef3f275582421619f15528fd2534d7", func := "girdle/girdlelaw06.SpanHolds", spec := "spanHolds", unfollowed := true, recurses := true, named := ["math/bits.deBruijn32tab", "math/bits.overflowError"], apart := false, laid := [("math/bits.deBruijn32tab", laid_math_bits_deBruijn32tab)] }
def SpanHoldsSaid : Prop := spanHoldsRow.holds Tryz.pinned (OpenSpec.ofChange spanHoldsSpec)

/-- ITS FALSE NEIGHBOUR: 'it returns false'. Refute it at one input. -/
def spanHoldsWrong : ChangeSpec := { name := "spanHolds", fn := fun _ => fun
  | [d1, d2, d3] => { results := [.lit (.bool false)], args := [d1, d2, d3] }
  | _ => none }
def SpanHoldsWrongFalsely : Prop := spanHoldsRow.holds Tryz.pinned (OpenSpec.ofChange spanHoldsWrong)

/-- 'girdlelaw06.SpanSets': WHATEVER THE INPUT: true; the input reads as it did. -/
def spanSetsSpec : ChangeSpec := { name := "spanSets", fn := fun _ => fun
  | [d1, d2, d3] => { results := [.lit (.bool true)], args := [d1, d2, d3] }
  | _ => none }
def spanSetsRow : OpenClaim := { program := "ytcfgefbkeeedgaagreatdoor", sum := "5d219bef4bd0fcc2bc17b28121200016ddef3f275582421619f15528fd2534d7", func := "girdle/girdlelaw06.SpanSets", spec := "spanSets", unfollowed := true, recurses := true, named := ["math/bits.deBruijn32tab", "math/bits.overflowError"], apart := false, laid := [("math/bits.deBruijn32tab", laid_math_bits_deBruijn32tab)] }
def SpanSetsSaid : Prop := spanSetsRow.holds Tryz.pinned (OpenSpec.ofChange spanSetsSpec)

/-- ITS FALSE NEIGHBOUR: 'it returns false'. Refute it at one input. -/
def spanSetsWrong : ChangeSpec := { name := "spanSets", fn := fun _ => fun
  | [d1, d2, d3] => { results := [.lit (.bool false)], args := [d1, d2, d3] }
  | _ => none }
def SpanSetsWrongFalsely : Prop := spanSetsRow.holds Tryz.pinned (OpenSpec.ofChange spanSetsWrong)

/-- 'girdlelaw07.VecReckons': WHATEVER THE INPUT: true; the input reads as it did. -/
def vecReckonsSpec : ChangeSpec := { name := "vecReckons", fn := fun _ => fun
  | [d1, d2, d3] => { results := [.lit (.bool true)], args := [d1, d2, d3] }
  | _ => none }
def vecReckonsRow : OpenClaim := { program := "ytcfgefbkeeedgaagreatdoor", sum := "5d219bef4bd0fcc2bc17b28121200016ddef3f275582421619f15528fd2534d7", func := "girdle/girdlelaw07.VecReckons", spec := "vecReckons", unfollowed := true, recurses := true, named := ["math/bits.overflowError", "math/bits.deBruijn32tab"], apart := false, laid := [("math/bits.deBruijn32tab", laid_math_bits_deBruijn32tab)] }
def VecReckonsSaid : Prop := vecReckonsRow.holds Tryz.pinned (OpenSpec.ofChange vecReckonsSpec)

/-- ITS FALSE NEIGHBOUR: 'it returns false'. Refute it at one input. -/
def vecReckonsWrong : ChangeSpec := { name := "vecReckons", fn := fun _ => fun
  | [d1, d2, d3] => { results := [.lit (.bool false)], args := [d1, d2, d3] }
  | _ => none }
def VecReckonsWrongFalsely : Prop := vecReckonsRow.holds Tryz.pinned (OpenSpec.ofChange vecReckonsWrong)

/-- 'girdlelaw07.VecScales': WHATEVER THE INPUT: true; the input reads as it did. -/
def vecScalesSpec : ChangeSpec := { name := "vecScales", fn := fun _ => fun
  | [d1, d2, d3] => { results := [.lit (.bool true)], args := [d1, d2, d3] }
  | _ => none }
def vecScalesRow : OpenClaim := { program := "ytcfgefbkeeedgaagreatdoor", sum := "5d219bef4bd0fcc2bc17b28121200016ddef3f275582421619f15528fd2534d7", func := "girdle/girdlelaw07.VecScales", spec := "vecScales", unfollowed := true, recurses := true, named := ["math/bits.overflowError", "math/bits.deBruijn32tab"], apart := false, laid := [("math/bits.deBruijn32tab", laid_math_bits_deBruijn32tab)] }
def VecScalesSaid : Prop := vecScalesRow.holds Tryz.pinned (OpenSpec.ofChange vecScalesSpec)

/-- ITS FALSE NEIGHBOUR: 'it returns false'. Refute it at one input. -/
def vecScalesWrong : ChangeSpec := { name := "vecScales", fn := fun _ => fun
  | [d1, d2, d3] => { results := [.lit (.bool false)], args := [d1, d2, d3] }
  | _ => none }
def VecScalesWrongFalsely : Prop := vecScalesRow.holds Tryz.pinned (OpenSpec.ofChange vecScalesWrong)

/-- 'girdlelaw07.VecHolds': WHATEVER THE INPUT: true; the input reads as it did. -/
def vecHoldsSpec : ChangeSpec := { name := "vecHolds", fn := fun _ => fun
  | [d1, d2, d3] => { results := [.lit (.bool true)], args := [d1, d2, d3] }
  | _ => none }
def vecHoldsRow : OpenClaim := { program := "ytcfgefbkeeedgaagreatdoor", sum := "5d219bef4bd0fcc2bc17b28121200016ddef3f275582421619f15528fd2534d7", func := "girdle/girdlelaw07.VecHolds", spec := "vecHolds", unfollowed := true, recurses := true, named := ["math/bits.overflowError", "math/bits.deBruijn32tab"], apart := false, laid := [("math/bits.deBruijn32tab", laid_math_bits_deBruijn32tab)] }
def VecHoldsSaid : Prop := vecHoldsRow.holds Tryz.pinned (OpenSpec.ofChange vecHoldsSpec)

/-- ITS FALSE NEIGHBOUR: 'it returns false'. Refute it at one input. -/
def vecHoldsWrong : ChangeSpec := { name := "vecHolds", fn := fun _ => fun
  | [d1, d2, d3] => { results := [.lit (.bool false)], args := [d1, d2, d3] }
  | _ => none }
def VecHoldsWrongFalsely : Prop := vecHoldsRow.holds Tryz.pinned (OpenSpec.ofChange vecHoldsWrong)

/-- 'girdlelaw07.VecShapes': WHATEVER THE INPUT: true; the input reads as it did. -/
def vecShapesSpec : ChangeSpec := { name := "vecShapes", fn := fun _ => fun
  | [d1, d2, d3] => { results := [.lit (.bool true)], args := [d1, d2, d3] }
  | _ => none }
def vecShapesRow : OpenClaim := { program := "ytcfgefbkeeedgaagreatdoor", sum := "5d219bef4bd0fcc2bc17b28121200016ddef3f275582421619f15528fd2534d7", func := "girdle/girdlelaw07.VecShapes", spec := "vecShapes", unfollowed := true, recurses := true, named := ["math/bits.overflowError", "math/bits.deBruijn32tab"], apart := false, laid := [("math/bits.deBruijn32tab", laid_math_bits_deBruijn32tab)] }
def VecShapesSaid : Prop := vecShapesRow.holds Tryz.pinned (OpenSpec.ofChange vecShapesSpec)

/-- ITS FALSE NEIGHBOUR: 'it returns false'. Refute it at one input. -/
def vecShapesWrong : ChangeSpec := { name := "vecShapes", fn := fun _ => fun
  | [d1, d2, d3] => { results := [.lit (.bool false)], args := [d1, d2, d3] }
  | _ => none }
def VecShapesWrongFalsely : Prop := vecShapesRow.holds Tryz.pinned (OpenSpec.ofChange vecShapesWrong)

/-- 'girdlelaw07.VecUnits': WHATEVER THE INPUT: true; the input reads as it did. -/
def vecUnitsSpec : ChangeSpec := { name := "vecUnits", fn := fun _ => fun
  | [d] => { results := [.lit (.bool true)], args := [d] }
  | _ => none }
def vecUnitsRow : OpenClaim := { program := "ytcfgefbkeeedgaagreatdoor", sum := "5d219bef4bd0fcc2bc17b28121200016ddef3f275582421619f15528fd2534d7", func := "girdle/girdlelaw07.VecUnits", spec := "vecUnits", unfollowed := true, recurses := true, named := ["math/bits.overflowError", "math/bits.deBruijn32tab"], apart := false, laid := [("math/bits.deBruijn32tab", laid_math_bits_deBruijn32tab)] }
def VecUnitsSaid : Prop := vecUnitsRow.holds Tryz.pinned (OpenSpec.ofChange vecUnitsSpec)

/-- ITS FALSE NEIGHBOUR: 'it returns false'. Refute it at one input. -/
def vecUnitsWrong : ChangeSpec := { name := "vecUnits", fn := fun _ => fun
  | [d] => { results := [.lit (.bool false)], args := [d] }
  | _ => none }
def VecUnitsWrongFalsely : Prop := vecUnitsRow.holds Tryz.pinned (OpenSpec.ofChange vecUnitsWrong)

/-- 'girdletop.WholeHeld': WHATEVER THE INPUT: true; the input reads as it did. -/
def wholeHeldSpec : ChangeSpec := { name := "wholeHeld", fn := fun _ => fun
  | [d1, d2, d3] => { results := [.lit (.bool true)], args := [d1, d2, d3] }
  | _ => none }
def wholeHeldRow : OpenClaim := { program := "ytcfgefbkeeedgaagreatdoor", sum := "5d219bef4bd0fcc2bc17b28121200016ddef3f275582421619f15528fd2534d7", func := "girdle/girdletop.WholeHeld", spec := "wholeHeld", unfollowed := true, recurses := true, named := ["math/bits.overflowError", "math/bits.deBruijn32tab"], apart := false, laid := [("math/bits.deBruijn32tab", laid_math_bits_deBruijn32tab)] }
def WholeHeldSaid : Prop := wholeHeldRow.holds Tryz.pinned (OpenSpec.ofChange wholeHeldSpec)

/-- ITS FALSE NEIGHBOUR: 'it returns false'. Refute it at one input. -/
def wholeHeldWrong : ChangeSpec := { name := "wholeHeld", fn := fun _ => fun
  | [d1, d2, d3] => { results := [.lit (.bool false)], args := [d1, d2, d3] }
  | _ => none }
def WholeHeldWrongFalsely : Prop := wholeHeldRow.holds Tryz.pinned (OpenSpec.ofChange wholeHeldWrong)

/- THE SECOND FORM. 'bulk': how many values and letters a reading holds, each counted each time it is reached (what is shared counts as often as it is met; a slice's spare places count too). A statement '..UptoSaid' is the law's where the arguments, and the package variables that the reading takes, are together of bulk at most 1048576: NARROWER than '..Said'. Prove '..Said' where nothing that the law and all that it calls make is longer than what came in: it says more and counts as full. Else prove '..UptoSaid'. A law counts once. -/
mutual
def uptoBulk {H : Type} : DataW H → Nat
  | .lit (.string bytes) => bytes.length + 1
  | .lit _ => 1
  | .nil => 1
  | .ptr d => uptoBulk d + 1
  | .slice elems spare => uptoBulkAll elems + uptoBulkAll spare + 1
  | .agg parts => uptoBulkAll parts + 1
  | .iface _ d => uptoBulk d + 1
  | .map entries => uptoBulkEntries entries + 1
  | .held _ => 1
def uptoBulkAll {H : Type} : List (DataW H) → Nat
  | [] => 0
  | d :: r => uptoBulk d + uptoBulkAll r
def uptoBulkEntries {H : Type} : List (Lit × DataW H) → Nat
  | [] => 0
  | x :: r => uptoBulkEntry x + uptoBulkEntries r
def uptoBulkEntry {H : Type} : Lit × DataW H → Nat
  | (.string bytes, d) => bytes.length + uptoBulk d + 1
  | (_, d) => uptoBulk d + 1
 end
def uptoSmall : (H : Type) → List (DataW H) → Bool := fun _ ds => decide (uptoBulkAll ds ≤ 1048576)
def OpenSpec.upto (s : _root_.Go.ChangeSpec) : _root_.Go.OpenSpec := { _root_.Go.OpenSpec.ofChange s with cond := some uptoSmall }

/-- 'girdlelaw06.SpanHolds', WHERE WHAT IT READS IS OF BULK AT MOST 1048576: true; the input reads as it did. -/
def spanHoldsUptoRow : OpenClaim := { program := "ytcfgefbkeeedgaagreatdoor", sum := "5d219bef4bd0fcc2bc17b28121200016ddef3f275582421619f15528fd2534d7", func := "girdle/girdlelaw06.SpanHolds", spec := "spanHolds", unfollowed := true, recurses := true, named := ["math/bits.deBruijn32tab", "math/bits.overflowError"], apart := false, laid := [("math/bits.deBruijn32tab", laid_math_bits_deBruijn32tab)], narrowed := true }
def SpanHoldsUptoSaid : Prop := spanHoldsUptoRow.holds Tryz.pinned (OpenSpec.upto spanHoldsSpec)

/-- 'girdlelaw06.SpanSets', WHERE WHAT IT READS IS OF BULK AT MOST 1048576: true; the input reads as it did. -/
def spanSetsUptoRow : OpenClaim := { program := "ytcfgefbkeeedgaagreatdoor", sum := "5d219bef4bd0fcc2bc17b28121200016ddef3f275582421619f15528fd2534d7", func := "girdle/girdlelaw06.SpanSets", spec := "spanSets", unfollowed := true, recurses := true, named := ["math/bits.deBruijn32tab", "math/bits.overflowError"], apart := false, laid := [("math/bits.deBruijn32tab", laid_math_bits_deBruijn32tab)], narrowed := true }
def SpanSetsUptoSaid : Prop := spanSetsUptoRow.holds Tryz.pinned (OpenSpec.upto spanSetsSpec)

/-- 'girdlelaw07.VecReckons', WHERE WHAT IT READS IS OF BULK AT MOST 1048576: true; the input reads as it did. -/
def vecReckonsUptoRow : OpenClaim := { program := "ytcfgefbkeeedgaagreatdoor", sum := "5d219bef4bd0fcc2bc17b28121200016ddef3f275582421619f15528fd2534d7", func := "girdle/girdlelaw07.VecReckons", spec := "vecReckons", unfollowed := true, recurses := true, named := ["math/bits.overflowError", "math/bits.deBruijn32tab"], apart := false, laid := [("math/bits.deBruijn32tab", laid_math_bits_deBruijn32tab)], narrowed := true }
def VecReckonsUptoSaid : Prop := vecReckonsUptoRow.holds Tryz.pinned (OpenSpec.upto vecReckonsSpec)

/-- 'girdlelaw07.VecScales', WHERE WHAT IT READS IS OF BULK AT MOST 1048576: true; the input reads as it did. -/
def vecScalesUptoRow : OpenClaim := { program := "ytcfgefbkeeedgaagreatdoor", sum := "5d219bef4bd0fcc2bc17b28121200016ddef3f275582421619f15528fd2534d7", func := "girdle/girdlelaw07.VecScales", spec := "vecScales", unfollowed := true, recurses := true, named := ["math/bits.overflowError", "math/bits.deBruijn32tab"], apart := false, laid := [("math/bits.deBruijn32tab", laid_math_bits_deBruijn32tab)], narrowed := true }
def VecScalesUptoSaid : Prop := vecScalesUptoRow.holds Tryz.pinned (OpenSpec.upto vecScalesSpec)

/-- 'girdlelaw07.VecHolds', WHERE WHAT IT READS IS OF BULK AT MOST 1048576: true; the input reads as it did. -/
def vecHoldsUptoRow : OpenClaim := { program := "ytcfgefbkeeedgaagreatdoor", sum := "5d219bef4bd0fcc2bc17b28121200016ddef3f275582421619f15528fd2534d7", func := "girdle/girdlelaw07.VecHolds", spec := "vecHolds", unfollowed := true, recurses := true, named := ["math/bits.overflowError", "math/bits.deBruijn32tab"], apart := false, laid := [("math/bits.deBruijn32tab", laid_math_bits_deBruijn32tab)], narrowed := true }
def VecHoldsUptoSaid : Prop := vecHoldsUptoRow.holds Tryz.pinned (OpenSpec.upto vecHoldsSpec)

/-- 'girdlelaw07.VecShapes', WHERE WHAT IT READS IS OF BULK AT MOST 1048576: true; the input reads as it did. -/
def vecShapesUptoRow : OpenClaim := { program := "ytcfgefbkeeedgaagreatdoor", sum := "5d219bef4bd0fcc2bc17b28121200016ddef3f275582421619f15528fd2534d7", func := "girdle/girdlelaw07.VecShapes", spec := "vecShapes", unfollowed := true, recurses := true, named := ["math/bits.overflowError", "math/bits.deBruijn32tab"], apart := false, laid := [("math/bits.deBruijn32tab", laid_math_bits_deBruijn32tab)], narrowed := true }
def VecShapesUptoSaid : Prop := vecShapesUptoRow.holds Tryz.pinned (OpenSpec.upto vecShapesSpec)

/-- 'girdlelaw07.VecUnits', WHERE WHAT IT READS IS OF BULK AT MOST 1048576: true; the input reads as it did. -/
def vecUnitsUptoRow : OpenClaim := { program := "ytcfgefbkeeedgaagreatdoor", sum := "5d219bef4bd0fcc2bc17b28121200016ddef3f275582421619f15528fd2534d7", func := "girdle/girdlelaw07.VecUnits", spec := "vecUnits", unfollowed := true, recurses := true, named := ["math/bits.overflowError", "math/bits.deBruijn32tab"], apart := false, laid := [("math/bits.deBruijn32tab", laid_math_bits_deBruijn32tab)], narrowed := true }
def VecUnitsUptoSaid : Prop := vecUnitsUptoRow.holds Tryz.pinned (OpenSpec.upto vecUnitsSpec)

/-- 'girdletop.WholeHeld', WHERE WHAT IT READS IS OF BULK AT MOST 1048576: true; the input reads as it did. -/
def wholeHeldUptoRow : OpenClaim := { program := "ytcfgefbkeeedgaagreatdoor", sum := "5d219bef4bd0fcc2bc17b28121200016ddef3f275582421619f15528fd2534d7", func := "girdle/girdletop.WholeHeld", spec := "wholeHeld", unfollowed := true, recurses := true, named := ["math/bits.overflowError", "math/bits.deBruijn32tab"], apart := false, laid := [("math/bits.deBruijn32tab", laid_math_bits_deBruijn32tab)], narrowed := true }
def WholeHeldUptoSaid : Prop := wholeHeldUptoRow.holds Tryz.pinned (OpenSpec.upto wholeHeldSpec)

end Rows
end Go.Proofs.YtcfgefbkeeedgaaGreatDoor
