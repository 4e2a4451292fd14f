/-
  No cell of these rows narrows 'for every input' (looked for: loops, veiled, ifaces, maps, wideKeys, modest, calm, conditions, laid).
  DERIVED. THE GIVEN ROWS OF THIS SEAT. 7 by the template 'for every input the law returns true; each argument reads behind the call as it read before'; 0 by the template 'total and deterministic' (their statements: YtphhaaofkckobaaTotals.lean).
  GIVEN WITH THE SEED: the statements are not yours to turn. If you find one false, say at which input.
  Laid BY PROGRAM, IN A SANDBOX (cutbox-rows.mjs): the forced cells as the released guide's own fill.sh prints them over the translation eca7ec25afe92e74… (all of the seat's roots in one cut). By AI agents, Wed Nov 11 2026. No macro, syntax, notation, axiom, sorry.
-/
import Derived.Test.YtphhaaofkckobaaChecked
import GoSem.Claim
import GoSem.ClaimJoined
import GoSem.ClaimMapViews
import Derived.JoinedTies
import Derived.KernelRfl
namespace Go.Proofs.Ytphhaaofkckobaa
/- THE CELL 'sum', in the pinned program and in every row, IS THE sha256 OF THE DUMP (.gsa) THAT YtphhaaofkckobaaProg.lean LOADS. Nothing in Lean hashes anything: it is a label: what it is worth is what the hold of that sum in a sandbox is worth. -/
noncomputable def Try.pinned : Pinned := { name := "ytphhaaofkckobaa", sum := "eca7ec25afe92e74a732d1392293a7f96b37cd0f85b5202a0df485044809c251", checked := Try.checked }
namespace Rows
def none {H : Type} : Left H := { results := [], args := [] }

/-- 'girdlelaw02.DigitsBack': WHATEVER THE INPUT: true; the input reads as it did. -/
def digitsBackSpec : ChangeSpec := { name := "digitsBack", fn := fun _ => fun
  | [d1, d2] => { results := [.lit (.bool true)], args := [d1, d2] }
  | _ => none }
def digitsBackRow : OpenClaim := { program := "ytphhaaofkckobaa", sum := "eca7ec25afe92e74a732d1392293a7f96b37cd0f85b5202a0df485044809c251", func := "girdle/girdlelaw02.DigitsBack", spec := "digitsBack", inPlace := ["internal/abi.NoEscape", "internal/bytealg.MakeNoZero"], unfollowed := true, recurses := true, named := ["math/bits.overflowError"], apart := false }
def DigitsBackSaid : Prop := digitsBackRow.holds Try.pinned (OpenSpec.ofChange digitsBackSpec)

/-- ITS FALSE NEIGHBOUR: 'it returns false'. Refute it at one input. -/
def digitsBackWrong : ChangeSpec := { name := "digitsBack", fn := fun _ => fun
  | [d1, d2] => { results := [.lit (.bool false)], args := [d1, d2] }
  | _ => none }
def DigitsBackWrongFalsely : Prop := digitsBackRow.holds Try.pinned (OpenSpec.ofChange digitsBackWrong)

/-- 'girdlelaw02.DigitsParses': WHATEVER THE INPUT: true; the input reads as it did. -/
def digitsParsesSpec : ChangeSpec := { name := "digitsParses", fn := fun _ => fun
  | [d] => { results := [.lit (.bool true)], args := [d] }
  | _ => none }
def digitsParsesRow : OpenClaim := { program := "ytphhaaofkckobaa", sum := "eca7ec25afe92e74a732d1392293a7f96b37cd0f85b5202a0df485044809c251", func := "girdle/girdlelaw02.DigitsParses", spec := "digitsParses", unfollowed := true, recurses := true, named := ["math/bits.overflowError"], apart := false }
def DigitsParsesSaid : Prop := digitsParsesRow.holds Try.pinned (OpenSpec.ofChange digitsParsesSpec)

/-- ITS FALSE NEIGHBOUR: 'it returns false'. Refute it at one input. -/
def digitsParsesWrong : ChangeSpec := { name := "digitsParses", fn := fun _ => fun
  | [d] => { results := [.lit (.bool false)], args := [d] }
  | _ => none }
def DigitsParsesWrongFalsely : Prop := digitsParsesRow.holds Try.pinned (OpenSpec.ofChange digitsParsesWrong)

/-- 'girdlelaw02.DigitsLong': WHATEVER THE INPUT: true; the input reads as it did. -/
def digitsLongSpec : ChangeSpec := { name := "digitsLong", fn := fun _ => fun
  | [d1, d2] => { results := [.lit (.bool true)], args := [d1, d2] }
  | _ => none }
def digitsLongRow : OpenClaim := { program := "ytphhaaofkckobaa", sum := "eca7ec25afe92e74a732d1392293a7f96b37cd0f85b5202a0df485044809c251", func := "girdle/girdlelaw02.DigitsLong", spec := "digitsLong", inPlace := ["internal/abi.NoEscape", "internal/bytealg.MakeNoZero"], unfollowed := true, recurses := true, named := ["math/bits.overflowError"], apart := false }
def DigitsLongSaid : Prop := digitsLongRow.holds Try.pinned (OpenSpec.ofChange digitsLongSpec)

/-- ITS FALSE NEIGHBOUR: 'it returns false'. Refute it at one input. -/
def digitsLongWrong : ChangeSpec := { name := "digitsLong", fn := fun _ => fun
  | [d1, d2] => { results := [.lit (.bool false)], args := [d1, d2] }
  | _ => none }
def DigitsLongWrongFalsely : Prop := digitsLongRow.holds Try.pinned (OpenSpec.ofChange digitsLongWrong)

/-- 'girdlelaw02.DigitsGcd': WHATEVER THE INPUT: true; the input reads as it did. -/
def digitsGcdSpec : ChangeSpec := { name := "digitsGcd", fn := fun _ => fun
  | [d1, d2, d3] => { results := [.lit (.bool true)], args := [d1, d2, d3] }
  | _ => none }
def digitsGcdRow : OpenClaim := { program := "ytphhaaofkckobaa", sum := "eca7ec25afe92e74a732d1392293a7f96b37cd0f85b5202a0df485044809c251", func := "girdle/girdlelaw02.DigitsGcd", spec := "digitsGcd", unfollowed := true, recurses := true, named := ["math/bits.overflowError"], apart := false }
def DigitsGcdSaid : Prop := digitsGcdRow.holds Try.pinned (OpenSpec.ofChange digitsGcdSpec)

/-- ITS FALSE NEIGHBOUR: 'it returns false'. Refute it at one input. -/
def digitsGcdWrong : ChangeSpec := { name := "digitsGcd", fn := fun _ => fun
  | [d1, d2, d3] => { results := [.lit (.bool false)], args := [d1, d2, d3] }
  | _ => none }
def DigitsGcdWrongFalsely : Prop := digitsGcdRow.holds Try.pinned (OpenSpec.ofChange digitsGcdWrong)

/-- 'girdlelaw02.DigitsTens': WHATEVER THE INPUT: true; the input reads as it did. -/
def digitsTensSpec : ChangeSpec := { name := "digitsTens", fn := fun _ => fun
  | [d] => { results := [.lit (.bool true)], args := [d] }
  | _ => none }
def digitsTensRow : OpenClaim := { program := "ytphhaaofkckobaa", sum := "eca7ec25afe92e74a732d1392293a7f96b37cd0f85b5202a0df485044809c251", func := "girdle/girdlelaw02.DigitsTens", spec := "digitsTens", inPlace := ["internal/abi.NoEscape", "internal/bytealg.MakeNoZero"], unfollowed := true, recurses := true, named := ["math/bits.overflowError"], apart := false }
def DigitsTensSaid : Prop := digitsTensRow.holds Try.pinned (OpenSpec.ofChange digitsTensSpec)

/-- ITS FALSE NEIGHBOUR: 'it returns false'. Refute it at one input. -/
def digitsTensWrong : ChangeSpec := { name := "digitsTens", fn := fun _ => fun
  | [d] => { results := [.lit (.bool false)], args := [d] }
  | _ => none }
def DigitsTensWrongFalsely : Prop := digitsTensRow.holds Try.pinned (OpenSpec.ofChange digitsTensWrong)

/-- 'girdlelaw02.DigitsPlaces': WHATEVER THE INPUT: true; the input reads as it did. -/
def digitsPlacesSpec : ChangeSpec := { name := "digitsPlaces", fn := fun _ => fun
  | [d] => { results := [.lit (.bool true)], args := [d] }
  | _ => none }
def digitsPlacesRow : OpenClaim := { program := "ytphhaaofkckobaa", sum := "eca7ec25afe92e74a732d1392293a7f96b37cd0f85b5202a0df485044809c251", func := "girdle/girdlelaw02.DigitsPlaces", spec := "digitsPlaces", unfollowed := true, recurses := true, named := ["math/bits.overflowError"], apart := false }
def DigitsPlacesSaid : Prop := digitsPlacesRow.holds Try.pinned (OpenSpec.ofChange digitsPlacesSpec)

/-- ITS FALSE NEIGHBOUR: 'it returns false'. Refute it at one input. -/
def digitsPlacesWrong : ChangeSpec := { name := "digitsPlaces", fn := fun _ => fun
  | [d] => { results := [.lit (.bool false)], args := [d] }
  | _ => none }
def DigitsPlacesWrongFalsely : Prop := digitsPlacesRow.holds Try.pinned (OpenSpec.ofChange digitsPlacesWrong)

/-- 'girdletop.WholeShifts': WHATEVER THE INPUT: true; the input reads as it did. -/
def wholeShiftsSpec : ChangeSpec := { name := "wholeShifts", fn := fun _ => fun
  | [d1, d2] => { results := [.lit (.bool true)], args := [d1, d2] }
  | _ => none }
def wholeShiftsRow : OpenClaim := { program := "ytphhaaofkckobaa", sum := "eca7ec25afe92e74a732d1392293a7f96b37cd0f85b5202a0df485044809c251", func := "girdle/girdletop.WholeShifts", spec := "wholeShifts", inPlace := ["internal/abi.NoEscape", "internal/bytealg.MakeNoZero"], unfollowed := true, recurses := true, named := ["math/bits.overflowError"], apart := false }
def WholeShiftsSaid : Prop := wholeShiftsRow.holds Try.pinned (OpenSpec.ofChange wholeShiftsSpec)

/-- ITS FALSE NEIGHBOUR: 'it returns false'. Refute it at one input. -/
def wholeShiftsWrong : ChangeSpec := { name := "wholeShifts", fn := fun _ => fun
  | [d1, d2] => { results := [.lit (.bool false)], args := [d1, d2] }
  | _ => none }
def WholeShiftsWrongFalsely : Prop := wholeShiftsRow.holds Try.pinned (OpenSpec.ofChange wholeShiftsWrong)

/- THE SECOND FORM. 'bulk': how many values and letters a reading holds, each counted each time it is reached (what is shared counts as often as it is met; a slice's spare places count too). A statement '..UptoSaid' is the law's where the arguments, and the package variables that the reading takes, are together of bulk at most 1048576: NARROWER than '..Said'. Prove '..Said' where nothing that the law and all that it calls make is longer than what came in: it says more and counts as full. Else prove '..UptoSaid'. A law counts once. -/
mutual
def uptoBulk {H : Type} : DataW H → Nat
  | .lit (.string bytes) => bytes.length + 1
  | .lit _ => 1
  | .nil => 1
  | .ptr d => uptoBulk d + 1
  | .slice elems spare => uptoBulkAll elems + uptoBulkAll spare + 1
  | .agg parts => uptoBulkAll parts + 1
  | .iface _ d => uptoBulk d + 1
  | .map entries => uptoBulkEntries entries + 1
  | .held _ => 1
def uptoBulkAll {H : Type} : List (DataW H) → Nat
  | [] => 0
  | d :: r => uptoBulk d + uptoBulkAll r
def uptoBulkEntries {H : Type} : List (Lit × DataW H) → Nat
  | [] => 0
  | x :: r => uptoBulkEntry x + uptoBulkEntries r
def uptoBulkEntry {H : Type} : Lit × DataW H → Nat
  | (.string bytes, d) => bytes.length + uptoBulk d + 1
  | (_, d) => uptoBulk d + 1
 end
def uptoSmall : (H : Type) → List (DataW H) → Bool := fun _ ds => decide (uptoBulkAll ds ≤ 1048576)
def OpenSpec.upto (s : _root_.Go.ChangeSpec) : _root_.Go.OpenSpec := { _root_.Go.OpenSpec.ofChange s with cond := some uptoSmall }

/-- 'girdlelaw02.DigitsBack', WHERE WHAT IT READS IS OF BULK AT MOST 1048576: true; the input reads as it did. -/
def digitsBackUptoRow : OpenClaim := { program := "ytphhaaofkckobaa", sum := "eca7ec25afe92e74a732d1392293a7f96b37cd0f85b5202a0df485044809c251", func := "girdle/girdlelaw02.DigitsBack", spec := "digitsBack", inPlace := ["internal/abi.NoEscape", "internal/bytealg.MakeNoZero"], unfollowed := true, recurses := true, named := ["math/bits.overflowError"], apart := false, narrowed := true }
def DigitsBackUptoSaid : Prop := digitsBackUptoRow.holds Try.pinned (OpenSpec.upto digitsBackSpec)

/-- 'girdlelaw02.DigitsParses', WHERE WHAT IT READS IS OF BULK AT MOST 1048576: true; the input reads as it did. -/
def digitsParsesUptoRow : OpenClaim := { program := "ytphhaaofkckobaa", sum := "eca7ec25afe92e74a732d1392293a7f96b37cd0f85b5202a0df485044809c251", func := "girdle/girdlelaw02.DigitsParses", spec := "digitsParses", unfollowed := true, recurses := true, named := ["math/bits.overflowError"], apart := false, narrowed := true }
def DigitsParsesUptoSaid : Prop := digitsParsesUptoRow.holds Try.pinned (OpenSpec.upto digitsParsesSpec)

/-- 'girdlelaw02.DigitsLong', WHERE WHAT IT READS IS OF BULK AT MOST 1048576: true; the input reads as it did. -/
def digitsLongUptoRow : OpenClaim := { program := "ytphhaaofkckobaa", sum := "eca7ec25afe92e74a732d1392293a7f96b37cd0f85b5202a0df485044809c251", func := "girdle/girdlelaw02.DigitsLong", spec := "digitsLong", inPlace := ["internal/abi.NoEscape", "internal/bytealg.MakeNoZero"], unfollowed := true, recurses := true, named := ["math/bits.overflowError"], apart := false, narrowed := true }
def DigitsLongUptoSaid : Prop := digitsLongUptoRow.holds Try.pinned (OpenSpec.upto digitsLongSpec)

/-- 'girdlelaw02.DigitsGcd', WHERE WHAT IT READS IS OF BULK AT MOST 1048576: true; the input reads as it did. -/
def digitsGcdUptoRow : OpenClaim := { program := "ytphhaaofkckobaa", sum := "eca7ec25afe92e74a732d1392293a7f96b37cd0f85b5202a0df485044809c251", func := "girdle/girdlelaw02.DigitsGcd", spec := "digitsGcd", unfollowed := true, recurses := true, named := ["math/bits.overflowError"], apart := false, narrowed := true }
def DigitsGcdUptoSaid : Prop := digitsGcdUptoRow.holds Try.pinned (OpenSpec.upto digitsGcdSpec)

/-- 'girdlelaw02.DigitsTens', WHERE WHAT IT READS IS OF BULK AT MOST 1048576: true; the input reads as it did. -/
def digitsTensUptoRow : OpenClaim := { program := "ytphhaaofkckobaa", sum := "eca7ec25afe92e74a732d1392293a7f96b37cd0f85b5202a0df485044809c251", func := "girdle/girdlelaw02.DigitsTens", spec := "digitsTens", inPlace := ["internal/abi.NoEscape", "internal/bytealg.MakeNoZero"], unfollowed := true, recurses := true, named := ["math/bits.overflowError"], apart := false, narrowed := true }
def DigitsTensUptoSaid : Prop := digitsTensUptoRow.holds Try.pinned (OpenSpec.upto digitsTensSpec)

/-- 'girdlelaw02.DigitsPlaces', WHERE WHAT IT READS IS OF BULK AT MOST 1048576: true; the input reads as it did. -/
def digitsPlacesUptoRow : OpenClaim := { program := "ytphhaaofkckobaa", sum := "eca7ec25afe92e74a732d1392293a7f96b37cd0f85b5202a0df485044809c251", func := "girdle/girdlelaw02.DigitsPlaces", spec := "digitsPlaces", unfollowed := true, recurses := true, named := ["math/bits.overflowError"], apart := false, narrowed := true }
def DigitsPlacesUptoSaid : Prop := digitsPlacesUptoRow.holds Try.pinned (OpenSpec.upto digitsPlacesSpec)

/-- 'girdletop.WholeShifts', WHERE WHAT IT READS IS OF BULK AT MOST 1048576: true; the input reads as it did. -/
def wholeShiftsUptoRow : OpenClaim := { program := "ytphhaaofkckobaa", sum := "eca7ec25afe92e74a732d1392293a7f96b37cd0f85b5202a0df485044809c251", func := "girdle/girdletop.WholeShifts", spec := "wholeShifts", inPlace := ["internal/abi.NoEscape", "internal/bytealg.MakeNoZero"], unfollowed := true, recurses := true, named := ["math/bits.overflowError"], apart := false, narrowed := true }
def WholeShiftsUptoSaid : Prop := wholeShiftsUptoRow.holds Try.pinned (OpenSpec.upto wholeShiftsSpec)

end Rows
end Go.Proofs.Ytphhaaofkckobaa
