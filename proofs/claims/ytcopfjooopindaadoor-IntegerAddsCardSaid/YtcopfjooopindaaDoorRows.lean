/-
  NARROWER THAN 'FOR EVERY INPUT', by the rows' own cells (each row's printed sentence says how): IntegerAdds: laid · IntegerMuls: laid · IntegerDivs: laid · IntegerShifts: laid · IntegerOrders: laid · IntegerTexts: laid.
  DERIVED. THE GIVEN ROWS OF THIS SEAT. 6 by the template 'for every input the law returns true; each argument reads behind the call as it read before'; 0 by the template 'total and deterministic' (their statements: YtcopfjooopindaaDoorTotals.lean).
  GIVEN WITH THE SEED: the statements are not yours to turn. If you find one false, say at which input.
  Laid BY PROGRAM, IN A SANDBOX (cutbox-rows.mjs): the forced cells as the released guide's own fill.sh prints them over the translation d901492d953dceeb… (all of the seat's roots in one cut). By AI agents, Wed Nov 11 2026. No macro, syntax, notation, axiom, sorry.
-/
import Derived.Test.YtcopfjooopindaaDoorChecked
import GoSem.Claim
import GoSem.ClaimJoined
import GoSem.ClaimMapViews
import Derived.JoinedTies
import Derived.KernelRfl
namespace Go.Proofs.YtcopfjooopindaaDoor
/- THE CELL 'sum', in the pinned program and in every row, IS THE sha256 OF THE DUMP (.gsa) THAT YtcopfjooopindaaDoorProg.lean LOADS. Nothing in Lean hashes anything: it is a label: what it is worth is what the hold of that sum in a sandbox is worth. -/
noncomputable def Tryd.pinned : Pinned := { name := "ytcopfjooopindaadoor", sum := "d901492d953dceeb27297de1de9452db45d904cb0b6c43b95d213a0405212e03", checked := Tryd.checked }
namespace Rows
def none {H : Type} : Left H := { results := [], args := [] }

/- WHAT THE LISTED PACKAGE-LEVEL VARIABLES READ AS WHEN THE CALL BEGINS. Each datum BY PROGRAM (the guide's laid-datum.mjs) off the statement by which the dump's own 'gosem.cut.vars' lays the variable. In a bare row this is a premise. The card (YtcopfjooopindaaDoorCards.lean) ties it to the program's text. -/
def laid_math_bits_deBruijn32tab {H : Type} : DataW H := .agg [.lit (.int .u8 0), .lit (.int .u8 1), .lit (.int .u8 28), .lit (.int .u8 2), .lit (.int .u8 29), .lit (.int .u8 14), .lit (.int .u8 24), .lit (.int .u8 3), .lit (.int .u8 30), .lit (.int .u8 22), .lit (.int .u8 20), .lit (.int .u8 15), .lit (.int .u8 25), .lit (.int .u8 17), .lit (.int .u8 4), .lit (.int .u8 8), .lit (.int .u8 31), .lit (.int .u8 27), .lit (.int .u8 13), .lit (.int .u8 23), .lit (.int .u8 21), .lit (.int .u8 19), .lit (.int .u8 16), .lit (.int .u8 7), .lit (.int .u8 26), .lit (.int .u8 12), .lit (.int .u8 18), .lit (.int .u8 6), .lit (.int .u8 11), .lit (.int .u8 5), .lit (.int .u8 10), .lit (.int .u8 9)]

/-- 'girdlelaw03.IntegerAdds': WHATEVER THE INPUT: true; the input reads as it did. -/
def integerAddsSpec : ChangeSpec := { name := "integerAdds", fn := fun _ => fun
  | [d1, d2, d3] => { results := [.lit (.bool true)], args := [d1, d2, d3] }
  | _ => none }
def integerAddsRow : OpenClaim := { program := "ytcopfjooopindaadoor", sum := "d901492d953dceeb27297de1de9452db45d904cb0b6c43b95d213a0405212e03", func := "girdle/girdlelaw03.IntegerAdds", spec := "integerAdds", unfollowed := true, recurses := true, named := ["math/bits.overflowError", "math/bits.deBruijn32tab"], apart := false, laid := [("math/bits.deBruijn32tab", laid_math_bits_deBruijn32tab)] }
def IntegerAddsSaid : Prop := integerAddsRow.holds Tryd.pinned (OpenSpec.ofChange integerAddsSpec)

/-- ITS FALSE NEIGHBOUR: 'it returns false'. Refute it at one input. -/
def integerAddsWrong : ChangeSpec := { name := "integerAdds", fn := fun _ => fun
  | [d1, d2, d3] => { results := [.lit (.bool false)], args := [d1, d2, d3] }
  | _ => none }
def IntegerAddsWrongFalsely : Prop := integerAddsRow.holds Tryd.pinned (OpenSpec.ofChange integerAddsWrong)

/-- 'girdlelaw03.IntegerMuls': WHATEVER THE INPUT: true; the input reads as it did. -/
def integerMulsSpec : ChangeSpec := { name := "integerMuls", fn := fun _ => fun
  | [d1, d2, d3] => { results := [.lit (.bool true)], args := [d1, d2, d3] }
  | _ => none }
def integerMulsRow : OpenClaim := { program := "ytcopfjooopindaadoor", sum := "d901492d953dceeb27297de1de9452db45d904cb0b6c43b95d213a0405212e03", func := "girdle/girdlelaw03.IntegerMuls", spec := "integerMuls", unfollowed := true, recurses := true, named := ["math/bits.overflowError", "math/bits.deBruijn32tab"], apart := false, laid := [("math/bits.deBruijn32tab", laid_math_bits_deBruijn32tab)] }
def IntegerMulsSaid : Prop := integerMulsRow.holds Tryd.pinned (OpenSpec.ofChange integerMulsSpec)

/-- ITS FALSE NEIGHBOUR: 'it returns false'. Refute it at one input. -/
def integerMulsWrong : ChangeSpec := { name := "integerMuls", fn := fun _ => fun
  | [d1, d2, d3] => { results := [.lit (.bool false)], args := [d1, d2, d3] }
  | _ => none }
def IntegerMulsWrongFalsely : Prop := integerMulsRow.holds Tryd.pinned (OpenSpec.ofChange integerMulsWrong)

/-- 'girdlelaw03.IntegerDivs': WHATEVER THE INPUT: true; the input reads as it did. -/
def integerDivsSpec : ChangeSpec := { name := "integerDivs", fn := fun _ => fun
  | [d1, d2] => { results := [.lit (.bool true)], args := [d1, d2] }
  | _ => none }
def integerDivsRow : OpenClaim := { program := "ytcopfjooopindaadoor", sum := "d901492d953dceeb27297de1de9452db45d904cb0b6c43b95d213a0405212e03", func := "girdle/girdlelaw03.IntegerDivs", spec := "integerDivs", unfollowed := true, recurses := true, named := ["math/bits.overflowError", "math/bits.deBruijn32tab"], apart := false, laid := [("math/bits.deBruijn32tab", laid_math_bits_deBruijn32tab)] }
def IntegerDivsSaid : Prop := integerDivsRow.holds Tryd.pinned (OpenSpec.ofChange integerDivsSpec)

/-- ITS FALSE NEIGHBOUR: 'it returns false'. Refute it at one input. -/
def integerDivsWrong : ChangeSpec := { name := "integerDivs", fn := fun _ => fun
  | [d1, d2] => { results := [.lit (.bool false)], args := [d1, d2] }
  | _ => none }
def IntegerDivsWrongFalsely : Prop := integerDivsRow.holds Tryd.pinned (OpenSpec.ofChange integerDivsWrong)

/-- 'girdlelaw03.IntegerShifts': WHATEVER THE INPUT: true; the input reads as it did. -/
def integerShiftsSpec : ChangeSpec := { name := "integerShifts", fn := fun _ => fun
  | [d1, d2] => { results := [.lit (.bool true)], args := [d1, d2] }
  | _ => none }
def integerShiftsRow : OpenClaim := { program := "ytcopfjooopindaadoor", sum := "d901492d953dceeb27297de1de9452db45d904cb0b6c43b95d213a0405212e03", func := "girdle/girdlelaw03.IntegerShifts", spec := "integerShifts", unfollowed := true, recurses := true, named := ["math/bits.overflowError", "math/bits.deBruijn32tab"], apart := false, laid := [("math/bits.deBruijn32tab", laid_math_bits_deBruijn32tab)] }
def IntegerShiftsSaid : Prop := integerShiftsRow.holds Tryd.pinned (OpenSpec.ofChange integerShiftsSpec)

/-- ITS FALSE NEIGHBOUR: 'it returns false'. Refute it at one input. -/
def integerShiftsWrong : ChangeSpec := { name := "integerShifts", fn := fun _ => fun
  | [d1, d2] => { results := [.lit (.bool false)], args := [d1, d2] }
  | _ => none }
def IntegerShiftsWrongFalsely : Prop := integerShiftsRow.holds Tryd.pinned (OpenSpec.ofChange integerShiftsWrong)

/-- 'girdlelaw03.IntegerOrders': WHATEVER THE INPUT: true; the input reads as it did. -/
def integerOrdersSpec : ChangeSpec := { name := "integerOrders", fn := fun _ => fun
  | [d1, d2] => { results := [.lit (.bool true)], args := [d1, d2] }
  | _ => none }
def integerOrdersRow : OpenClaim := { program := "ytcopfjooopindaadoor", sum := "d901492d953dceeb27297de1de9452db45d904cb0b6c43b95d213a0405212e03", func := "girdle/girdlelaw03.IntegerOrders", spec := "integerOrders", unfollowed := true, recurses := true, named := ["math/bits.overflowError", "math/bits.deBruijn32tab"], apart := false, laid := [("math/bits.deBruijn32tab", laid_math_bits_deBruijn32tab)] }
def IntegerOrdersSaid : Prop := integerOrdersRow.holds Tryd.pinned (OpenSpec.ofChange integerOrdersSpec)

/-- ITS FALSE NEIGHBOUR: 'it returns false'. Refute it at one input. -/
def integerOrdersWrong : ChangeSpec := { name := "integerOrders", fn := fun _ => fun
  | [d1, d2] => { results := [.lit (.bool false)], args := [d1, d2] }
  | _ => none }
def IntegerOrdersWrongFalsely : Prop := integerOrdersRow.holds Tryd.pinned (OpenSpec.ofChange integerOrdersWrong)

/-- 'girdlelaw03.IntegerTexts': WHATEVER THE INPUT: true; the input reads as it did. -/
def integerTextsSpec : ChangeSpec := { name := "integerTexts", fn := fun _ => fun
  | [d1, d2] => { results := [.lit (.bool true)], args := [d1, d2] }
  | _ => none }
def integerTextsRow : OpenClaim := { program := "ytcopfjooopindaadoor", sum := "d901492d953dceeb27297de1de9452db45d904cb0b6c43b95d213a0405212e03", func := "girdle/girdlelaw03.IntegerTexts", spec := "integerTexts", unfollowed := true, recurses := true, named := ["math/bits.overflowError", "math/bits.deBruijn32tab"], apart := false, laid := [("math/bits.deBruijn32tab", laid_math_bits_deBruijn32tab)] }
def IntegerTextsSaid : Prop := integerTextsRow.holds Tryd.pinned (OpenSpec.ofChange integerTextsSpec)

/-- ITS FALSE NEIGHBOUR: 'it returns false'. Refute it at one input. -/
def integerTextsWrong : ChangeSpec := { name := "integerTexts", fn := fun _ => fun
  | [d1, d2] => { results := [.lit (.bool false)], args := [d1, d2] }
  | _ => none }
def IntegerTextsWrongFalsely : Prop := integerTextsRow.holds Tryd.pinned (OpenSpec.ofChange integerTextsWrong)

/- THE SECOND FORM. 'bulk': how many values and letters a reading holds, each counted each time it is reached (what is shared counts as often as it is met; a slice's spare places count too). A statement '..UptoSaid' is the law's where the arguments, and the package variables that the reading takes, are together of bulk at most 1048576: NARROWER than '..Said'. Prove '..Said' where nothing that the law and all that it calls make is longer than what came in: it says more and counts as full. Else prove '..UptoSaid'. A law counts once. -/
mutual
def uptoBulk {H : Type} : DataW H → Nat
  | .lit (.string bytes) => bytes.length + 1
  | .lit _ => 1
  | .nil => 1
  | .ptr d => uptoBulk d + 1
  | .slice elems spare => uptoBulkAll elems + uptoBulkAll spare + 1
  | .agg parts => uptoBulkAll parts + 1
  | .iface _ d => uptoBulk d + 1
  | .map entries => uptoBulkEntries entries + 1
  | .held _ => 1
def uptoBulkAll {H : Type} : List (DataW H) → Nat
  | [] => 0
  | d :: r => uptoBulk d + uptoBulkAll r
def uptoBulkEntries {H : Type} : List (Lit × DataW H) → Nat
  | [] => 0
  | x :: r => uptoBulkEntry x + uptoBulkEntries r
def uptoBulkEntry {H : Type} : Lit × DataW H → Nat
  | (.string bytes, d) => bytes.length + uptoBulk d + 1
  | (_, d) => uptoBulk d + 1
 end
def uptoSmall : (H : Type) → List (DataW H) → Bool := fun _ ds => decide (uptoBulkAll ds ≤ 1048576)
def OpenSpec.upto (s : _root_.Go.ChangeSpec) : _root_.Go.OpenSpec := { _root_.Go.OpenSpec.ofChange s with cond := some uptoSmall }

/-- 'girdlelaw03.IntegerAdds', WHERE WHAT IT READS IS OF BULK AT MOST 1048576: true; the input reads as it did. -/
def integerAddsUptoRow : OpenClaim := { program := "ytcopfjooopindaadoor", sum := "d901492d953dceeb27297de1de9452db45d904cb0b6c43b95d213a0405212e03", func := "girdle/girdlelaw03.IntegerAdds", spec := "integerAdds", unfollowed := true, recurses := true, named := ["math/bits.overflowError", "math/bits.deBruijn32tab"], apart := false, laid := [("math/bits.deBruijn32tab", laid_math_bits_deBruijn32tab)], narrowed := true }
def IntegerAddsUptoSaid : Prop := integerAddsUptoRow.holds Tryd.pinned (OpenSpec.upto integerAddsSpec)

/-- 'girdlelaw03.IntegerMuls', WHERE WHAT IT READS IS OF BULK AT MOST 1048576: true; the input reads as it did. -/
def integerMulsUptoRow : OpenClaim := { program := "ytcopfjooopindaadoor", sum := "d901492d953dceeb27297de1de9452db45d904cb0b6c43b95d213a0405212e03", func := "girdle/girdlelaw03.IntegerMuls", spec := "integerMuls", unfollowed := true, recurses := true, named := ["math/bits.overflowError", "math/bits.deBruijn32tab"], apart := false, laid := [("math/bits.deBruijn32tab", laid_math_bits_deBruijn32tab)], narrowed := true }
def IntegerMulsUptoSaid : Prop := integerMulsUptoRow.holds Tryd.pinned (OpenSpec.upto integerMulsSpec)

/-- 'girdlelaw03.IntegerDivs', WHERE WHAT IT READS IS OF BULK AT MOST 1048576: true; the input reads as it did. -/
def integerDivsUptoRow : OpenClaim := { program := "ytcopfjooopindaadoor", sum := "d901492d953dceeb27297de1de9452db45d904cb0b6c43b95d213a0405212e03", func := "girdle/girdlelaw03.IntegerDivs", spec := "integerDivs", unfollowed := true, recurses := true, named := ["math/bits.overflowError", "math/bits.deBruijn32tab"], apart := false, laid := [("math/bits.deBruijn32tab", laid_math_bits_deBruijn32tab)], narrowed := true }
def IntegerDivsUptoSaid : Prop := integerDivsUptoRow.holds Tryd.pinned (OpenSpec.upto integerDivsSpec)

/-- 'girdlelaw03.IntegerShifts', WHERE WHAT IT READS IS OF BULK AT MOST 1048576: true; the input reads as it did. -/
def integerShiftsUptoRow : OpenClaim := { program := "ytcopfjooopindaadoor", sum := "d901492d953dceeb27297de1de9452db45d904cb0b6c43b95d213a0405212e03", func := "girdle/girdlelaw03.IntegerShifts", spec := "integerShifts", unfollowed := true, recurses := true, named := ["math/bits.overflowError", "math/bits.deBruijn32tab"], apart := false, laid := [("math/bits.deBruijn32tab", laid_math_bits_deBruijn32tab)], narrowed := true }
def IntegerShiftsUptoSaid : Prop := integerShiftsUptoRow.holds Tryd.pinned (OpenSpec.upto integerShiftsSpec)

/-- 'girdlelaw03.IntegerOrders', WHERE WHAT IT READS IS OF BULK AT MOST 1048576: true; the input reads as it did. -/
def integerOrdersUptoRow : OpenClaim := { program := "ytcopfjooopindaadoor", sum := "d901492d953dceeb27297de1de9452db45d904cb0b6c43b95d213a0405212e03", func := "girdle/girdlelaw03.IntegerOrders", spec := "integerOrders", unfollowed := true, recurses := true, named := ["math/bits.overflowError", "math/bits.deBruijn32tab"], apart := false, laid := [("math/bits.deBruijn32tab", laid_math_bits_deBruijn32tab)], narrowed := true }
def IntegerOrdersUptoSaid : Prop := integerOrdersUptoRow.holds Tryd.pinned (OpenSpec.upto integerOrdersSpec)

/-- 'girdlelaw03.IntegerTexts', WHERE WHAT IT READS IS OF BULK AT MOST 1048576: true; the input reads as it did. -/
def integerTextsUptoRow : OpenClaim := { program := "ytcopfjooopindaadoor", sum := "d901492d953dceeb27297de1de9452db45d904cb0b6c43b95d213a0405212e03", func := "girdle/girdlelaw03.IntegerTexts", spec := "integerTexts", unfollowed := true, recurses := true, named := ["math/bits.overflowError", "math/bits.deBruijn32tab"], apart := false, laid := [("math/bits.deBruijn32tab", laid_math_bits_deBruijn32tab)], narrowed := true }
def IntegerTextsUptoSaid : Prop := integerTextsUptoRow.holds Tryd.pinned (OpenSpec.upto integerTextsSpec)

end Rows
end Go.Proofs.YtcopfjooopindaaDoor
