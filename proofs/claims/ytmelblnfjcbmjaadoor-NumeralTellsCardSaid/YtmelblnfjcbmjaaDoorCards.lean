/-
  DERIVED. GIVEN WITH THE SEED: THE CARDS: each row of YtmelblnfjcbmjaaDoorRows.lean that lists a variable, with what it lists TIED to the program's text (the seventh form; the later family's looks); each row that meets fmt, with fmt's text TOLD by the authors' own Lean function (tested against real Go, not proved from fmt's source: count such statements apart). THE CARD IS WHAT COUNTS. Prove the row's statement (the work); the ties are given (YtmelblnfjcbmjaaDoorTie.lean); close each card by the builder's one call (the guide's Derived/Test/ToyasCard.lean, 'card_holds'). Laid BY PROGRAM, IN A SANDBOX (cutbox-door.mjs). By AI agents, Wed Nov 11 2026. No macro, syntax, notation, axiom, sorry.
-/
import Derived.Test.YtmelblnfjcbmjaaDoorRows
import GoSem.ClaimSeven
namespace Go.Proofs.YtmelblnfjcbmjaaDoor
namespace Rows

/-- THE TIED CARD OF 'casuistlaw03.QuotRoots'. -/
def quotRootsCard : Claim7 := { stood := { row := quotRootsRow, standIns := [], harness := (true, "7b65e9a7f5e7987da038437432c5028f3708b0eebc753bd4a0b46cda3d84ee49"), looks := false }, kinds := [], alts := [], laidByText := true, laidKinds := [.data], laidTests := true, laidLooks := .later }
def QuotRootsCardSaid : Prop := Claim7.holds Tryd.pinned (.plain (OpenSpec.ofChange quotRootsSpec)) quotRootsCard

/-- THE TIED CARD OF 'casuistlaw04.RoundScales'. -/
def roundScalesCard : Claim7 := { stood := { row := roundScalesRow, standIns := [], harness := (true, "7b65e9a7f5e7987da038437432c5028f3708b0eebc753bd4a0b46cda3d84ee49"), looks := false }, kinds := [], alts := [], laidByText := true, laidKinds := [.data], laidTests := true, laidLooks := .later }
def RoundScalesCardSaid : Prop := Claim7.holds Tryd.pinned (.plain (OpenSpec.ofChange roundScalesSpec)) roundScalesCard

/-- THE TIED CARD OF 'casuistlaw04.RoundWholes'. -/
def roundWholesCard : Claim7 := { stood := { row := roundWholesRow, standIns := [], harness := (true, "7b65e9a7f5e7987da038437432c5028f3708b0eebc753bd4a0b46cda3d84ee49"), looks := false }, kinds := [], alts := [], laidByText := true, laidKinds := [.data], laidTests := true, laidLooks := .later }
def RoundWholesCardSaid : Prop := Claim7.holds Tryd.pinned (.plain (OpenSpec.ofChange roundWholesSpec)) roundWholesCard

/-- THE TIED CARD OF 'casuistlaw05.NumeralTells'. -/
def numeralTellsCard : Claim7 := { stood := { row := numeralTellsRow, standIns := [], harness := (true, "7b65e9a7f5e7987da038437432c5028f3708b0eebc753bd4a0b46cda3d84ee49"), looks := false }, kinds := [], alts := [], laidByText := true, laidKinds := [.data, .data, .data, .data], laidTests := true, laidLooks := .later }
def NumeralTellsCardSaid : Prop := Claim7.holds Tryd.pinned (.plain (OpenSpec.ofChange numeralTellsSpec)) numeralTellsCard

/-- THE TIED CARD OF 'casuistlaw05.NumeralOne'. -/
def numeralOneCard : Claim7 := { stood := { row := numeralOneRow, standIns := [], harness := (true, "7b65e9a7f5e7987da038437432c5028f3708b0eebc753bd4a0b46cda3d84ee49"), looks := false }, kinds := [], alts := [], laidByText := true, laidKinds := [.data, .data, .data, .data], laidTests := true, laidLooks := .later }
def NumeralOneCardSaid : Prop := Claim7.holds Tryd.pinned (.plain (OpenSpec.ofChange numeralOneSpec)) numeralOneCard

/-- THE TIED CARD OF 'casuistlaw05.NumeralBack'. -/
def numeralBackCard : Claim7 := { stood := { row := numeralBackRow, standIns := [], harness := (true, "7b65e9a7f5e7987da038437432c5028f3708b0eebc753bd4a0b46cda3d84ee49"), looks := false }, kinds := [], alts := [], laidByText := true, laidKinds := [.data, .data, .data, .data], laidTests := true, laidLooks := .later }
def NumeralBackCardSaid : Prop := Claim7.holds Tryd.pinned (.plain (OpenSpec.ofChange numeralBackSpec)) numeralBackCard

/-- THE TIED CARD OF 'casuistlaw05.NumeralShifts'. -/
def numeralShiftsCard : Claim7 := { stood := { row := numeralShiftsRow, standIns := [], harness := (true, "7b65e9a7f5e7987da038437432c5028f3708b0eebc753bd4a0b46cda3d84ee49"), looks := false }, kinds := [], alts := [], laidByText := true, laidKinds := [.data, .data, .data, .data], laidTests := true, laidLooks := .later }
def NumeralShiftsCardSaid : Prop := Claim7.holds Tryd.pinned (.plain (OpenSpec.ofChange numeralShiftsSpec)) numeralShiftsCard

/-- THE SECOND FORM's CARD OF 'casuistlaw03.QuotRoots'. -/
def quotRootsUptoCard : Claim7 := { stood := { row := quotRootsUptoRow, standIns := [], harness := (true, "7b65e9a7f5e7987da038437432c5028f3708b0eebc753bd4a0b46cda3d84ee49"), looks := false }, kinds := [], alts := [], laidByText := true, laidKinds := [.data], laidTests := true, laidLooks := .later }
def QuotRootsUptoCardSaid : Prop := Claim7.holds Tryd.pinned (.plain (OpenSpec.upto quotRootsSpec)) quotRootsUptoCard

/-- THE SECOND FORM's CARD OF 'casuistlaw04.RoundScales'. -/
def roundScalesUptoCard : Claim7 := { stood := { row := roundScalesUptoRow, standIns := [], harness := (true, "7b65e9a7f5e7987da038437432c5028f3708b0eebc753bd4a0b46cda3d84ee49"), looks := false }, kinds := [], alts := [], laidByText := true, laidKinds := [.data], laidTests := true, laidLooks := .later }
def RoundScalesUptoCardSaid : Prop := Claim7.holds Tryd.pinned (.plain (OpenSpec.upto roundScalesSpec)) roundScalesUptoCard

/-- THE SECOND FORM's CARD OF 'casuistlaw04.RoundWholes'. -/
def roundWholesUptoCard : Claim7 := { stood := { row := roundWholesUptoRow, standIns := [], harness := (true, "7b65e9a7f5e7987da038437432c5028f3708b0eebc753bd4a0b46cda3d84ee49"), looks := false }, kinds := [], alts := [], laidByText := true, laidKinds := [.data], laidTests := true, laidLooks := .later }
def RoundWholesUptoCardSaid : Prop := Claim7.holds Tryd.pinned (.plain (OpenSpec.upto roundWholesSpec)) roundWholesUptoCard

/-- THE SECOND FORM's CARD OF 'casuistlaw05.NumeralTells'. -/
def numeralTellsUptoCard : Claim7 := { stood := { row := numeralTellsUptoRow, standIns := [], harness := (true, "7b65e9a7f5e7987da038437432c5028f3708b0eebc753bd4a0b46cda3d84ee49"), looks := false }, kinds := [], alts := [], laidByText := true, laidKinds := [.data, .data, .data, .data], laidTests := true, laidLooks := .later }
def NumeralTellsUptoCardSaid : Prop := Claim7.holds Tryd.pinned (.plain (OpenSpec.upto numeralTellsSpec)) numeralTellsUptoCard

/-- THE SECOND FORM's CARD OF 'casuistlaw05.NumeralOne'. -/
def numeralOneUptoCard : Claim7 := { stood := { row := numeralOneUptoRow, standIns := [], harness := (true, "7b65e9a7f5e7987da038437432c5028f3708b0eebc753bd4a0b46cda3d84ee49"), looks := false }, kinds := [], alts := [], laidByText := true, laidKinds := [.data, .data, .data, .data], laidTests := true, laidLooks := .later }
def NumeralOneUptoCardSaid : Prop := Claim7.holds Tryd.pinned (.plain (OpenSpec.upto numeralOneSpec)) numeralOneUptoCard

/-- THE SECOND FORM's CARD OF 'casuistlaw05.NumeralBack'. -/
def numeralBackUptoCard : Claim7 := { stood := { row := numeralBackUptoRow, standIns := [], harness := (true, "7b65e9a7f5e7987da038437432c5028f3708b0eebc753bd4a0b46cda3d84ee49"), looks := false }, kinds := [], alts := [], laidByText := true, laidKinds := [.data, .data, .data, .data], laidTests := true, laidLooks := .later }
def NumeralBackUptoCardSaid : Prop := Claim7.holds Tryd.pinned (.plain (OpenSpec.upto numeralBackSpec)) numeralBackUptoCard

/-- THE SECOND FORM's CARD OF 'casuistlaw05.NumeralShifts'. -/
def numeralShiftsUptoCard : Claim7 := { stood := { row := numeralShiftsUptoRow, standIns := [], harness := (true, "7b65e9a7f5e7987da038437432c5028f3708b0eebc753bd4a0b46cda3d84ee49"), looks := false }, kinds := [], alts := [], laidByText := true, laidKinds := [.data, .data, .data, .data], laidTests := true, laidLooks := .later }
def NumeralShiftsUptoCardSaid : Prop := Claim7.holds Tryd.pinned (.plain (OpenSpec.upto numeralShiftsSpec)) numeralShiftsUptoCard
end Rows
end Go.Proofs.YtmelblnfjcbmjaaDoor
