/-
  DERIVED. GIVEN WITH THE SEED: THE CARDS: each row of YtoobmopmmoficaaDoorRows.lean that lists a variable, with what it lists TIED to the program's text (the seventh form; the later family's looks); each row that meets fmt, with fmt's text TOLD by the authors' own Lean function (tested against real Go, not proved from fmt's source: count such statements apart). THE CARD IS WHAT COUNTS. Prove the row's statement (the work); the ties are given (YtoobmopmmoficaaDoorTie.lean); close each card by the builder's one call (the guide's Derived/Test/ToyasCard.lean, 'card_holds'). Laid BY PROGRAM, IN A SANDBOX (cutbox-door.mjs). By AI agents, Wed Nov 11 2026. No macro, syntax, notation, axiom, sorry.
-/
import Derived.Test.YtoobmopmmoficaaDoorRows
import GoSem.ClaimSeven
namespace Go.Proofs.YtoobmopmmoficaaDoor
namespace Rows

/-- THE TIED CARD OF 'casuistlaw03.QuotRoots'. -/
def quotRootsCard : Claim7 := { stood := { row := quotRootsRow, standIns := [], harness := (true, "cd78a840009d4c6f4f8a38ff044f3510a151c8f45ad491b5c9f375c6ad88add6"), looks := false }, kinds := [], alts := [], laidByText := true, laidKinds := [.data], laidTests := true, laidLooks := .later }
def QuotRootsCardSaid : Prop := Claim7.holds Tryd.pinned (.plain (OpenSpec.ofChange quotRootsSpec)) quotRootsCard

/-- THE TIED CARD OF 'casuistlaw03.QuotBack'. -/
def quotBackCard : Claim7 := { stood := { row := quotBackRow, standIns := [], harness := (true, "cd78a840009d4c6f4f8a38ff044f3510a151c8f45ad491b5c9f375c6ad88add6"), looks := false }, kinds := [], alts := [], laidByText := true, laidKinds := [.data], laidTests := true, laidLooks := .later }
def QuotBackCardSaid : Prop := Claim7.holds Tryd.pinned (.plain (OpenSpec.ofChange quotBackSpec)) quotBackCard

/-- THE TIED CARD OF 'casuistlaw03.QuotSquares'. -/
def quotSquaresCard : Claim7 := { stood := { row := quotSquaresRow, standIns := [], harness := (true, "cd78a840009d4c6f4f8a38ff044f3510a151c8f45ad491b5c9f375c6ad88add6"), looks := false }, kinds := [], alts := [], laidByText := true, laidKinds := [.data], laidTests := true, laidLooks := .later }
def QuotSquaresCardSaid : Prop := Claim7.holds Tryd.pinned (.plain (OpenSpec.ofChange quotSquaresSpec)) quotSquaresCard

/-- THE TIED CARD OF 'casuistlaw03.QuotOnes'. -/
def quotOnesCard : Claim7 := { stood := { row := quotOnesRow, standIns := [], harness := (true, "cd78a840009d4c6f4f8a38ff044f3510a151c8f45ad491b5c9f375c6ad88add6"), looks := false }, kinds := [], alts := [], laidByText := true, laidKinds := [.data], laidTests := true, laidLooks := .later }
def QuotOnesCardSaid : Prop := Claim7.holds Tryd.pinned (.plain (OpenSpec.ofChange quotOnesSpec)) quotOnesCard

/-- THE TIED CARD OF 'casuistlaw04.RoundNear'. -/
def roundNearCard : Claim7 := { stood := { row := roundNearRow, standIns := [], harness := (true, "cd78a840009d4c6f4f8a38ff044f3510a151c8f45ad491b5c9f375c6ad88add6"), looks := false }, kinds := [], alts := [], laidByText := true, laidKinds := [.data], laidTests := true, laidLooks := .later }
def RoundNearCardSaid : Prop := Claim7.holds Tryd.pinned (.plain (OpenSpec.ofChange roundNearSpec)) roundNearCard

/-- THE TIED CARD OF 'casuistlaw04.RoundModes'. -/
def roundModesCard : Claim7 := { stood := { row := roundModesRow, standIns := [], harness := (true, "cd78a840009d4c6f4f8a38ff044f3510a151c8f45ad491b5c9f375c6ad88add6"), looks := false }, kinds := [], alts := [], laidByText := true, laidKinds := [.data], laidTests := true, laidLooks := .later }
def RoundModesCardSaid : Prop := Claim7.holds Tryd.pinned (.plain (OpenSpec.ofChange roundModesSpec)) roundModesCard

/-- THE TIED CARD OF 'casuistlaw04.RoundModulo'. -/
def roundModuloCard : Claim7 := { stood := { row := roundModuloRow, standIns := [], harness := (true, "cd78a840009d4c6f4f8a38ff044f3510a151c8f45ad491b5c9f375c6ad88add6"), looks := false }, kinds := [], alts := [], laidByText := true, laidKinds := [.data], laidTests := true, laidLooks := .later }
def RoundModuloCardSaid : Prop := Claim7.holds Tryd.pinned (.plain (OpenSpec.ofChange roundModuloSpec)) roundModuloCard

/-- THE TIED CARD OF 'casuistlaw04.RoundParity'. -/
def roundParityCard : Claim7 := { stood := { row := roundParityRow, standIns := [], harness := (true, "cd78a840009d4c6f4f8a38ff044f3510a151c8f45ad491b5c9f375c6ad88add6"), looks := false }, kinds := [], alts := [], laidByText := true, laidKinds := [.data], laidTests := true, laidLooks := .later }
def RoundParityCardSaid : Prop := Claim7.holds Tryd.pinned (.plain (OpenSpec.ofChange roundParitySpec)) roundParityCard

/-- THE TIED CARD OF 'casuistlaw05.NumeralTells'. -/
def numeralTellsCard : Claim7 := { stood := { row := numeralTellsRow, standIns := [], harness := (true, "cd78a840009d4c6f4f8a38ff044f3510a151c8f45ad491b5c9f375c6ad88add6"), looks := false }, kinds := [], alts := [], laidByText := true, laidKinds := [.data, .data, .data, .data], laidTests := true, laidLooks := .later }
def NumeralTellsCardSaid : Prop := Claim7.holds Tryd.pinned (.plain (OpenSpec.ofChange numeralTellsSpec)) numeralTellsCard

/-- THE TIED CARD OF 'casuistlaw05.NumeralOne'. -/
def numeralOneCard : Claim7 := { stood := { row := numeralOneRow, standIns := [], harness := (true, "cd78a840009d4c6f4f8a38ff044f3510a151c8f45ad491b5c9f375c6ad88add6"), looks := false }, kinds := [], alts := [], laidByText := true, laidKinds := [.data, .data, .data, .data], laidTests := true, laidLooks := .later }
def NumeralOneCardSaid : Prop := Claim7.holds Tryd.pinned (.plain (OpenSpec.ofChange numeralOneSpec)) numeralOneCard

/-- THE TIED CARD OF 'casuistlaw05.NumeralBack'. -/
def numeralBackCard : Claim7 := { stood := { row := numeralBackRow, standIns := [], harness := (true, "cd78a840009d4c6f4f8a38ff044f3510a151c8f45ad491b5c9f375c6ad88add6"), looks := false }, kinds := [], alts := [], laidByText := true, laidKinds := [.data, .data, .data, .data], laidTests := true, laidLooks := .later }
def NumeralBackCardSaid : Prop := Claim7.holds Tryd.pinned (.plain (OpenSpec.ofChange numeralBackSpec)) numeralBackCard

/-- THE TIED CARD OF 'casuistlaw05.NumeralShifts'. -/
def numeralShiftsCard : Claim7 := { stood := { row := numeralShiftsRow, standIns := [], harness := (true, "cd78a840009d4c6f4f8a38ff044f3510a151c8f45ad491b5c9f375c6ad88add6"), looks := false }, kinds := [], alts := [], laidByText := true, laidKinds := [.data, .data, .data, .data], laidTests := true, laidLooks := .later }
def NumeralShiftsCardSaid : Prop := Claim7.holds Tryd.pinned (.plain (OpenSpec.ofChange numeralShiftsSpec)) numeralShiftsCard

/-- THE SECOND FORM's CARD OF 'casuistlaw03.QuotRoots'. -/
def quotRootsUptoCard : Claim7 := { stood := { row := quotRootsUptoRow, standIns := [], harness := (true, "cd78a840009d4c6f4f8a38ff044f3510a151c8f45ad491b5c9f375c6ad88add6"), looks := false }, kinds := [], alts := [], laidByText := true, laidKinds := [.data], laidTests := true, laidLooks := .later }
def QuotRootsUptoCardSaid : Prop := Claim7.holds Tryd.pinned (.plain (OpenSpec.upto quotRootsSpec)) quotRootsUptoCard

/-- THE SECOND FORM's CARD OF 'casuistlaw03.QuotBack'. -/
def quotBackUptoCard : Claim7 := { stood := { row := quotBackUptoRow, standIns := [], harness := (true, "cd78a840009d4c6f4f8a38ff044f3510a151c8f45ad491b5c9f375c6ad88add6"), looks := false }, kinds := [], alts := [], laidByText := true, laidKinds := [.data], laidTests := true, laidLooks := .later }
def QuotBackUptoCardSaid : Prop := Claim7.holds Tryd.pinned (.plain (OpenSpec.upto quotBackSpec)) quotBackUptoCard

/-- THE SECOND FORM's CARD OF 'casuistlaw03.QuotSquares'. -/
def quotSquaresUptoCard : Claim7 := { stood := { row := quotSquaresUptoRow, standIns := [], harness := (true, "cd78a840009d4c6f4f8a38ff044f3510a151c8f45ad491b5c9f375c6ad88add6"), looks := false }, kinds := [], alts := [], laidByText := true, laidKinds := [.data], laidTests := true, laidLooks := .later }
def QuotSquaresUptoCardSaid : Prop := Claim7.holds Tryd.pinned (.plain (OpenSpec.upto quotSquaresSpec)) quotSquaresUptoCard

/-- THE SECOND FORM's CARD OF 'casuistlaw03.QuotOnes'. -/
def quotOnesUptoCard : Claim7 := { stood := { row := quotOnesUptoRow, standIns := [], harness := (true, "cd78a840009d4c6f4f8a38ff044f3510a151c8f45ad491b5c9f375c6ad88add6"), looks := false }, kinds := [], alts := [], laidByText := true, laidKinds := [.data], laidTests := true, laidLooks := .later }
def QuotOnesUptoCardSaid : Prop := Claim7.holds Tryd.pinned (.plain (OpenSpec.upto quotOnesSpec)) quotOnesUptoCard

/-- THE SECOND FORM's CARD OF 'casuistlaw04.RoundNear'. -/
def roundNearUptoCard : Claim7 := { stood := { row := roundNearUptoRow, standIns := [], harness := (true, "cd78a840009d4c6f4f8a38ff044f3510a151c8f45ad491b5c9f375c6ad88add6"), looks := false }, kinds := [], alts := [], laidByText := true, laidKinds := [.data], laidTests := true, laidLooks := .later }
def RoundNearUptoCardSaid : Prop := Claim7.holds Tryd.pinned (.plain (OpenSpec.upto roundNearSpec)) roundNearUptoCard

/-- THE SECOND FORM's CARD OF 'casuistlaw04.RoundModes'. -/
def roundModesUptoCard : Claim7 := { stood := { row := roundModesUptoRow, standIns := [], harness := (true, "cd78a840009d4c6f4f8a38ff044f3510a151c8f45ad491b5c9f375c6ad88add6"), looks := false }, kinds := [], alts := [], laidByText := true, laidKinds := [.data], laidTests := true, laidLooks := .later }
def RoundModesUptoCardSaid : Prop := Claim7.holds Tryd.pinned (.plain (OpenSpec.upto roundModesSpec)) roundModesUptoCard

/-- THE SECOND FORM's CARD OF 'casuistlaw04.RoundModulo'. -/
def roundModuloUptoCard : Claim7 := { stood := { row := roundModuloUptoRow, standIns := [], harness := (true, "cd78a840009d4c6f4f8a38ff044f3510a151c8f45ad491b5c9f375c6ad88add6"), looks := false }, kinds := [], alts := [], laidByText := true, laidKinds := [.data], laidTests := true, laidLooks := .later }
def RoundModuloUptoCardSaid : Prop := Claim7.holds Tryd.pinned (.plain (OpenSpec.upto roundModuloSpec)) roundModuloUptoCard

/-- THE SECOND FORM's CARD OF 'casuistlaw04.RoundParity'. -/
def roundParityUptoCard : Claim7 := { stood := { row := roundParityUptoRow, standIns := [], harness := (true, "cd78a840009d4c6f4f8a38ff044f3510a151c8f45ad491b5c9f375c6ad88add6"), looks := false }, kinds := [], alts := [], laidByText := true, laidKinds := [.data], laidTests := true, laidLooks := .later }
def RoundParityUptoCardSaid : Prop := Claim7.holds Tryd.pinned (.plain (OpenSpec.upto roundParitySpec)) roundParityUptoCard

/-- THE SECOND FORM's CARD OF 'casuistlaw05.NumeralTells'. -/
def numeralTellsUptoCard : Claim7 := { stood := { row := numeralTellsUptoRow, standIns := [], harness := (true, "cd78a840009d4c6f4f8a38ff044f3510a151c8f45ad491b5c9f375c6ad88add6"), looks := false }, kinds := [], alts := [], laidByText := true, laidKinds := [.data, .data, .data, .data], laidTests := true, laidLooks := .later }
def NumeralTellsUptoCardSaid : Prop := Claim7.holds Tryd.pinned (.plain (OpenSpec.upto numeralTellsSpec)) numeralTellsUptoCard

/-- THE SECOND FORM's CARD OF 'casuistlaw05.NumeralOne'. -/
def numeralOneUptoCard : Claim7 := { stood := { row := numeralOneUptoRow, standIns := [], harness := (true, "cd78a840009d4c6f4f8a38ff044f3510a151c8f45ad491b5c9f375c6ad88add6"), looks := false }, kinds := [], alts := [], laidByText := true, laidKinds := [.data, .data, .data, .data], laidTests := true, laidLooks := .later }
def NumeralOneUptoCardSaid : Prop := Claim7.holds Tryd.pinned (.plain (OpenSpec.upto numeralOneSpec)) numeralOneUptoCard

/-- THE SECOND FORM's CARD OF 'casuistlaw05.NumeralBack'. -/
def numeralBackUptoCard : Claim7 := { stood := { row := numeralBackUptoRow, standIns := [], harness := (true, "cd78a840009d4c6f4f8a38ff044f3510a151c8f45ad491b5c9f375c6ad88add6"), looks := false }, kinds := [], alts := [], laidByText := true, laidKinds := [.data, .data, .data, .data], laidTests := true, laidLooks := .later }
def NumeralBackUptoCardSaid : Prop := Claim7.holds Tryd.pinned (.plain (OpenSpec.upto numeralBackSpec)) numeralBackUptoCard

/-- THE SECOND FORM's CARD OF 'casuistlaw05.NumeralShifts'. -/
def numeralShiftsUptoCard : Claim7 := { stood := { row := numeralShiftsUptoRow, standIns := [], harness := (true, "cd78a840009d4c6f4f8a38ff044f3510a151c8f45ad491b5c9f375c6ad88add6"), looks := false }, kinds := [], alts := [], laidByText := true, laidKinds := [.data, .data, .data, .data], laidTests := true, laidLooks := .later }
def NumeralShiftsUptoCardSaid : Prop := Claim7.holds Tryd.pinned (.plain (OpenSpec.upto numeralShiftsSpec)) numeralShiftsUptoCard
end Rows
end Go.Proofs.YtoobmopmmoficaaDoor
