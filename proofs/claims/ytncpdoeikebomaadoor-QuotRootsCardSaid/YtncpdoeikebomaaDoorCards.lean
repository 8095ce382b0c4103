/-
  DERIVED. GIVEN WITH THE SEED: THE CARDS: each row of YtncpdoeikebomaaDoorRows.lean that lists a variable, with what it lists TIED to the program's text (the seventh form; the later family's looks); each row that meets fmt, with fmt's text TOLD by the authors' own Lean function (tested against real Go, not proved from fmt's source: count such statements apart). THE CARD IS WHAT COUNTS. Prove the row's statement (the work); the ties are given (YtncpdoeikebomaaDoorTie.lean); close each card by the builder's one call (the guide's Derived/Test/ToyasCard.lean, 'card_holds'). Laid BY PROGRAM, IN A SANDBOX (cutbox-door.mjs). By AI agents, Wed Nov 11 2026. No macro, syntax, notation, axiom, sorry.
-/
import Derived.Test.YtncpdoeikebomaaDoorRows
import GoSem.ClaimSeven
namespace Go.Proofs.YtncpdoeikebomaaDoor
namespace Rows

/-- THE TIED CARD OF 'casuistlaw03.QuotRoots'. -/
def quotRootsCard : Claim7 := { stood := { row := quotRootsRow, standIns := [], harness := (true, "a6f5f0d7727c830ce515c68d90909905813d0f37227f63bba4b4128f194ab171"), looks := false }, kinds := [], alts := [], laidByText := true, laidKinds := [.data], laidTests := true, laidLooks := .later }
def QuotRootsCardSaid : Prop := Claim7.holds Tryd.pinned (.plain (OpenSpec.ofChange quotRootsSpec)) quotRootsCard

/-- THE TIED CARD OF 'casuistlaw04.RoundScales'. -/
def roundScalesCard : Claim7 := { stood := { row := roundScalesRow, standIns := [], harness := (true, "a6f5f0d7727c830ce515c68d90909905813d0f37227f63bba4b4128f194ab171"), looks := false }, kinds := [], alts := [], laidByText := true, laidKinds := [.data], laidTests := true, laidLooks := .later }
def RoundScalesCardSaid : Prop := Claim7.holds Tryd.pinned (.plain (OpenSpec.ofChange roundScalesSpec)) roundScalesCard

/-- THE TIED CARD OF 'casuistlaw04.RoundWholes'. -/
def roundWholesCard : Claim7 := { stood := { row := roundWholesRow, standIns := [], harness := (true, "a6f5f0d7727c830ce515c68d90909905813d0f37227f63bba4b4128f194ab171"), looks := false }, kinds := [], alts := [], laidByText := true, laidKinds := [.data], laidTests := true, laidLooks := .later }
def RoundWholesCardSaid : Prop := Claim7.holds Tryd.pinned (.plain (OpenSpec.ofChange roundWholesSpec)) roundWholesCard

/-- THE TIED CARD OF 'casuistlaw04.RoundNear'. -/
def roundNearCard : Claim7 := { stood := { row := roundNearRow, standIns := [], harness := (true, "a6f5f0d7727c830ce515c68d90909905813d0f37227f63bba4b4128f194ab171"), looks := false }, kinds := [], alts := [], laidByText := true, laidKinds := [.data], laidTests := true, laidLooks := .later }
def RoundNearCardSaid : Prop := Claim7.holds Tryd.pinned (.plain (OpenSpec.ofChange roundNearSpec)) roundNearCard

/-- THE SECOND FORM's CARD OF 'casuistlaw03.QuotRoots'. -/
def quotRootsUptoCard : Claim7 := { stood := { row := quotRootsUptoRow, standIns := [], harness := (true, "a6f5f0d7727c830ce515c68d90909905813d0f37227f63bba4b4128f194ab171"), looks := false }, kinds := [], alts := [], laidByText := true, laidKinds := [.data], laidTests := true, laidLooks := .later }
def QuotRootsUptoCardSaid : Prop := Claim7.holds Tryd.pinned (.plain (OpenSpec.upto quotRootsSpec)) quotRootsUptoCard

/-- THE SECOND FORM's CARD OF 'casuistlaw04.RoundScales'. -/
def roundScalesUptoCard : Claim7 := { stood := { row := roundScalesUptoRow, standIns := [], harness := (true, "a6f5f0d7727c830ce515c68d90909905813d0f37227f63bba4b4128f194ab171"), looks := false }, kinds := [], alts := [], laidByText := true, laidKinds := [.data], laidTests := true, laidLooks := .later }
def RoundScalesUptoCardSaid : Prop := Claim7.holds Tryd.pinned (.plain (OpenSpec.upto roundScalesSpec)) roundScalesUptoCard

/-- THE SECOND FORM's CARD OF 'casuistlaw04.RoundWholes'. -/
def roundWholesUptoCard : Claim7 := { stood := { row := roundWholesUptoRow, standIns := [], harness := (true, "a6f5f0d7727c830ce515c68d90909905813d0f37227f63bba4b4128f194ab171"), looks := false }, kinds := [], alts := [], laidByText := true, laidKinds := [.data], laidTests := true, laidLooks := .later }
def RoundWholesUptoCardSaid : Prop := Claim7.holds Tryd.pinned (.plain (OpenSpec.upto roundWholesSpec)) roundWholesUptoCard

/-- THE SECOND FORM's CARD OF 'casuistlaw04.RoundNear'. -/
def roundNearUptoCard : Claim7 := { stood := { row := roundNearUptoRow, standIns := [], harness := (true, "a6f5f0d7727c830ce515c68d90909905813d0f37227f63bba4b4128f194ab171"), looks := false }, kinds := [], alts := [], laidByText := true, laidKinds := [.data], laidTests := true, laidLooks := .later }
def RoundNearUptoCardSaid : Prop := Claim7.holds Tryd.pinned (.plain (OpenSpec.upto roundNearSpec)) roundNearUptoCard
end Rows
end Go.Proofs.YtncpdoeikebomaaDoor
