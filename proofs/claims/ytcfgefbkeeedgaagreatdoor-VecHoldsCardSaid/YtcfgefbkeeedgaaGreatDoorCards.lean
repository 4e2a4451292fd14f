/-
  DERIVED. GIVEN WITH THE SEED: THE CARDS: each row of YtcfgefbkeeedgaaGreatDoorRows.lean that lists a variable, with what it lists TIED to the program's text (the seventh form; the later family's looks); each row that meets fmt, with fmt's text TOLD by the authors' own Lean function (tested against real Go, not proved from fmt's source: count such statements apart). THE CARD IS WHAT COUNTS. Prove the row's statement (the work); the ties are given (YtcfgefbkeeedgaaGreatDoorTie.lean); close each card by the builder's one call (the guide's Derived/Test/ToyasCard.lean, 'card_holds'). Laid BY PROGRAM, IN A SANDBOX (cutbox-door.mjs). By AI agents, Wed Nov 11 2026. No macro, syntax, notation, axiom, sorry.
-/
import Derived.Test.YtcfgefbkeeedgaaGreatDoorRows
import GoSem.ClaimSeven
namespace Go.Proofs.YtcfgefbkeeedgaaGreatDoor
namespace Rows

/-- THE TIED CARD OF 'girdlelaw06.SpanHolds'. -/
def spanHoldsCard : Claim7 := { stood := { row := spanHoldsRow, standIns := [], harness := (true, "262136842146553ee3b554338b2eba2f4d5d0d0fa7020518eef0b2a10b20a53b"), looks := false }, kinds := [], alts := [], laidByText := true, laidKinds := [.data], laidTests := true, laidLooks := .later }
def SpanHoldsCardSaid : Prop := Claim7.holds Tryz.pinned (.plain (OpenSpec.ofChange spanHoldsSpec)) spanHoldsCard

/-- THE TIED CARD OF 'girdlelaw06.SpanSets'. -/
def spanSetsCard : Claim7 := { stood := { row := spanSetsRow, standIns := [], harness := (true, "262136842146553ee3b554338b2eba2f4d5d0d0fa7020518eef0b2a10b20a53b"), looks := false }, kinds := [], alts := [], laidByText := true, laidKinds := [.data], laidTests := true, laidLooks := .later }
def SpanSetsCardSaid : Prop := Claim7.holds Tryz.pinned (.plain (OpenSpec.ofChange spanSetsSpec)) spanSetsCard

/-- THE TIED CARD OF 'girdlelaw07.VecReckons'. -/
def vecReckonsCard : Claim7 := { stood := { row := vecReckonsRow, standIns := [], harness := (true, "262136842146553ee3b554338b2eba2f4d5d0d0fa7020518eef0b2a10b20a53b"), looks := false }, kinds := [], alts := [], laidByText := true, laidKinds := [.data], laidTests := true, laidLooks := .later }
def VecReckonsCardSaid : Prop := Claim7.holds Tryz.pinned (.plain (OpenSpec.ofChange vecReckonsSpec)) vecReckonsCard

/-- THE TIED CARD OF 'girdlelaw07.VecScales'. -/
def vecScalesCard : Claim7 := { stood := { row := vecScalesRow, standIns := [], harness := (true, "262136842146553ee3b554338b2eba2f4d5d0d0fa7020518eef0b2a10b20a53b"), looks := false }, kinds := [], alts := [], laidByText := true, laidKinds := [.data], laidTests := true, laidLooks := .later }
def VecScalesCardSaid : Prop := Claim7.holds Tryz.pinned (.plain (OpenSpec.ofChange vecScalesSpec)) vecScalesCard

/-- THE TIED CARD OF 'girdlelaw07.VecHolds'. -/
def vecHoldsCard : Claim7 := { stood := { row := vecHoldsRow, standIns := [], harness := (true, "262136842146553ee3b554338b2eba2f4d5d0d0fa7020518eef0b2a10b20a53b"), looks := false }, kinds := [], alts := [], laidByText := true, laidKinds := [.data], laidTests := true, laidLooks := .later }
def VecHoldsCardSaid : Prop := Claim7.holds Tryz.pinned (.plain (OpenSpec.ofChange vecHoldsSpec)) vecHoldsCard

/-- THE TIED CARD OF 'girdlelaw07.VecShapes'. -/
def vecShapesCard : Claim7 := { stood := { row := vecShapesRow, standIns := [], harness := (true, "262136842146553ee3b554338b2eba2f4d5d0d0fa7020518eef0b2a10b20a53b"), looks := false }, kinds := [], alts := [], laidByText := true, laidKinds := [.data], laidTests := true, laidLooks := .later }
def VecShapesCardSaid : Prop := Claim7.holds Tryz.pinned (.plain (OpenSpec.ofChange vecShapesSpec)) vecShapesCard

/-- THE TIED CARD OF 'girdlelaw07.VecUnits'. -/
def vecUnitsCard : Claim7 := { stood := { row := vecUnitsRow, standIns := [], harness := (true, "262136842146553ee3b554338b2eba2f4d5d0d0fa7020518eef0b2a10b20a53b"), looks := false }, kinds := [], alts := [], laidByText := true, laidKinds := [.data], laidTests := true, laidLooks := .later }
def VecUnitsCardSaid : Prop := Claim7.holds Tryz.pinned (.plain (OpenSpec.ofChange vecUnitsSpec)) vecUnitsCard

/-- THE TIED CARD OF 'girdletop.WholeHeld'. -/
def wholeHeldCard : Claim7 := { stood := { row := wholeHeldRow, standIns := [], harness := (true, "262136842146553ee3b554338b2eba2f4d5d0d0fa7020518eef0b2a10b20a53b"), looks := false }, kinds := [], alts := [], laidByText := true, laidKinds := [.data], laidTests := true, laidLooks := .later }
def WholeHeldCardSaid : Prop := Claim7.holds Tryz.pinned (.plain (OpenSpec.ofChange wholeHeldSpec)) wholeHeldCard

/-- THE SECOND FORM's CARD OF 'girdlelaw06.SpanHolds'. -/
def spanHoldsUptoCard : Claim7 := { stood := { row := spanHoldsUptoRow, standIns := [], harness := (true, "262136842146553ee3b554338b2eba2f4d5d0d0fa7020518eef0b2a10b20a53b"), looks := false }, kinds := [], alts := [], laidByText := true, laidKinds := [.data], laidTests := true, laidLooks := .later }
def SpanHoldsUptoCardSaid : Prop := Claim7.holds Tryz.pinned (.plain (OpenSpec.upto spanHoldsSpec)) spanHoldsUptoCard

/-- THE SECOND FORM's CARD OF 'girdlelaw06.SpanSets'. -/
def spanSetsUptoCard : Claim7 := { stood := { row := spanSetsUptoRow, standIns := [], harness := (true, "262136842146553ee3b554338b2eba2f4d5d0d0fa7020518eef0b2a10b20a53b"), looks := false }, kinds := [], alts := [], laidByText := true, laidKinds := [.data], laidTests := true, laidLooks := .later }
def SpanSetsUptoCardSaid : Prop := Claim7.holds Tryz.pinned (.plain (OpenSpec.upto spanSetsSpec)) spanSetsUptoCard

/-- THE SECOND FORM's CARD OF 'girdlelaw07.VecReckons'. -/
def vecReckonsUptoCard : Claim7 := { stood := { row := vecReckonsUptoRow, standIns := [], harness := (true, "262136842146553ee3b554338b2eba2f4d5d0d0fa7020518eef0b2a10b20a53b"), looks := false }, kinds := [], alts := [], laidByText := true, laidKinds := [.data], laidTests := true, laidLooks := .later }
def VecReckonsUptoCardSaid : Prop := Claim7.holds Tryz.pinned (.plain (OpenSpec.upto vecReckonsSpec)) vecReckonsUptoCard

/-- THE SECOND FORM's CARD OF 'girdlelaw07.VecScales'. -/
def vecScalesUptoCard : Claim7 := { stood := { row := vecScalesUptoRow, standIns := [], harness := (true, "262136842146553ee3b554338b2eba2f4d5d0d0fa7020518eef0b2a10b20a53b"), looks := false }, kinds := [], alts := [], laidByText := true, laidKinds := [.data], laidTests := true, laidLooks := .later }
def VecScalesUptoCardSaid : Prop := Claim7.holds Tryz.pinned (.plain (OpenSpec.upto vecScalesSpec)) vecScalesUptoCard

/-- THE SECOND FORM's CARD OF 'girdlelaw07.VecHolds'. -/
def vecHoldsUptoCard : Claim7 := { stood := { row := vecHoldsUptoRow, standIns := [], harness := (true, "262136842146553ee3b554338b2eba2f4d5d0d0fa7020518eef0b2a10b20a53b"), looks := false }, kinds := [], alts := [], laidByText := true, laidKinds := [.data], laidTests := true, laidLooks := .later }
def VecHoldsUptoCardSaid : Prop := Claim7.holds Tryz.pinned (.plain (OpenSpec.upto vecHoldsSpec)) vecHoldsUptoCard

/-- THE SECOND FORM's CARD OF 'girdlelaw07.VecShapes'. -/
def vecShapesUptoCard : Claim7 := { stood := { row := vecShapesUptoRow, standIns := [], harness := (true, "262136842146553ee3b554338b2eba2f4d5d0d0fa7020518eef0b2a10b20a53b"), looks := false }, kinds := [], alts := [], laidByText := true, laidKinds := [.data], laidTests := true, laidLooks := .later }
def VecShapesUptoCardSaid : Prop := Claim7.holds Tryz.pinned (.plain (OpenSpec.upto vecShapesSpec)) vecShapesUptoCard

/-- THE SECOND FORM's CARD OF 'girdlelaw07.VecUnits'. -/
def vecUnitsUptoCard : Claim7 := { stood := { row := vecUnitsUptoRow, standIns := [], harness := (true, "262136842146553ee3b554338b2eba2f4d5d0d0fa7020518eef0b2a10b20a53b"), looks := false }, kinds := [], alts := [], laidByText := true, laidKinds := [.data], laidTests := true, laidLooks := .later }
def VecUnitsUptoCardSaid : Prop := Claim7.holds Tryz.pinned (.plain (OpenSpec.upto vecUnitsSpec)) vecUnitsUptoCard

/-- THE SECOND FORM's CARD OF 'girdletop.WholeHeld'. -/
def wholeHeldUptoCard : Claim7 := { stood := { row := wholeHeldUptoRow, standIns := [], harness := (true, "262136842146553ee3b554338b2eba2f4d5d0d0fa7020518eef0b2a10b20a53b"), looks := false }, kinds := [], alts := [], laidByText := true, laidKinds := [.data], laidTests := true, laidLooks := .later }
def WholeHeldUptoCardSaid : Prop := Claim7.holds Tryz.pinned (.plain (OpenSpec.upto wholeHeldSpec)) wholeHeldUptoCard
end Rows
end Go.Proofs.YtcfgefbkeeedgaaGreatDoor
