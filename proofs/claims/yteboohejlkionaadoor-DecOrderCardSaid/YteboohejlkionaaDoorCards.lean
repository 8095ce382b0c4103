/-
  DERIVED. GIVEN WITH THE SEED: THE CARDS: each row of YteboohejlkionaaDoorRows.lean that lists a variable, with what it lists TIED to the program's text (the seventh form; the later family's looks); each row that meets fmt, with fmt's text TOLD by the authors' own Lean function (tested against real Go, not proved from fmt's source: count such statements apart). THE CARD IS WHAT COUNTS. Prove the row's statement (the work); the ties are given (YteboohejlkionaaDoorTie.lean); close each card by the builder's one call (the guide's Derived/Test/ToyasCard.lean, 'card_holds'). Laid BY PROGRAM, IN A SANDBOX (cutbox-door.mjs). By AI agents, Wed Nov 11 2026. No macro, syntax, notation, axiom, sorry.
-/
import Derived.Test.YteboohejlkionaaDoorRows
import GoSem.ClaimSeven
namespace Go.Proofs.YteboohejlkionaaDoor
namespace Rows

/-- THE TIED CARD OF 'casuistlaw02.DecTells'. -/
def decTellsCard : Claim7 := { stood := { row := decTellsRow, standIns := [], harness := (true, "3dc3664276cdb7fbdb9dda3487d1ee11462cc7f58a00183b629c377b9b32c8a8"), looks := false }, kinds := [], alts := [], laidByText := true, laidKinds := [.data], laidTests := true, laidLooks := .later }
def DecTellsCardSaid : Prop := Claim7.holds Tryd.pinned (.plain (OpenSpec.ofChange decTellsSpec)) decTellsCard

/-- THE TIED CARD OF 'casuistlaw02.DecRing'. -/
def decRingCard : Claim7 := { stood := { row := decRingRow, standIns := [], harness := (true, "3dc3664276cdb7fbdb9dda3487d1ee11462cc7f58a00183b629c377b9b32c8a8"), looks := false }, kinds := [], alts := [], laidByText := true, laidKinds := [.data], laidTests := true, laidLooks := .later }
def DecRingCardSaid : Prop := Claim7.holds Tryd.pinned (.plain (OpenSpec.ofChange decRingSpec)) decRingCard

/-- THE TIED CARD OF 'casuistlaw02.DecOrder'. -/
def decOrderCard : Claim7 := { stood := { row := decOrderRow, standIns := [], harness := (true, "3dc3664276cdb7fbdb9dda3487d1ee11462cc7f58a00183b629c377b9b32c8a8"), looks := false }, kinds := [], alts := [], laidByText := true, laidKinds := [.data], laidTests := true, laidLooks := .later }
def DecOrderCardSaid : Prop := Claim7.holds Tryd.pinned (.plain (OpenSpec.ofChange decOrderSpec)) decOrderCard

/-- THE TIED CARD OF 'casuistlaw02.DecFit'. -/
def decFitCard : Claim7 := { stood := { row := decFitRow, standIns := [], harness := (true, "3dc3664276cdb7fbdb9dda3487d1ee11462cc7f58a00183b629c377b9b32c8a8"), looks := false }, kinds := [], alts := [], laidByText := true, laidKinds := [.data], laidTests := true, laidLooks := .later }
def DecFitCardSaid : Prop := Claim7.holds Tryd.pinned (.plain (OpenSpec.ofChange decFitSpec)) decFitCard

/-- THE TIED CARD OF 'casuistlaw03.QuotSquares'. -/
def quotSquaresCard : Claim7 := { stood := { row := quotSquaresRow, standIns := [], harness := (true, "3dc3664276cdb7fbdb9dda3487d1ee11462cc7f58a00183b629c377b9b32c8a8"), looks := false }, kinds := [], alts := [], laidByText := true, laidKinds := [.data], laidTests := true, laidLooks := .later }
def QuotSquaresCardSaid : Prop := Claim7.holds Tryd.pinned (.plain (OpenSpec.ofChange quotSquaresSpec)) quotSquaresCard

/-- THE TIED CARD OF 'casuistlaw03.QuotOnes'. -/
def quotOnesCard : Claim7 := { stood := { row := quotOnesRow, standIns := [], harness := (true, "3dc3664276cdb7fbdb9dda3487d1ee11462cc7f58a00183b629c377b9b32c8a8"), looks := false }, kinds := [], alts := [], laidByText := true, laidKinds := [.data], laidTests := true, laidLooks := .later }
def QuotOnesCardSaid : Prop := Claim7.holds Tryd.pinned (.plain (OpenSpec.ofChange quotOnesSpec)) quotOnesCard

/-- THE SECOND FORM's CARD OF 'casuistlaw02.DecTells'. -/
def decTellsUptoCard : Claim7 := { stood := { row := decTellsUptoRow, standIns := [], harness := (true, "3dc3664276cdb7fbdb9dda3487d1ee11462cc7f58a00183b629c377b9b32c8a8"), looks := false }, kinds := [], alts := [], laidByText := true, laidKinds := [.data], laidTests := true, laidLooks := .later }
def DecTellsUptoCardSaid : Prop := Claim7.holds Tryd.pinned (.plain (OpenSpec.upto decTellsSpec)) decTellsUptoCard

/-- THE SECOND FORM's CARD OF 'casuistlaw02.DecRing'. -/
def decRingUptoCard : Claim7 := { stood := { row := decRingUptoRow, standIns := [], harness := (true, "3dc3664276cdb7fbdb9dda3487d1ee11462cc7f58a00183b629c377b9b32c8a8"), looks := false }, kinds := [], alts := [], laidByText := true, laidKinds := [.data], laidTests := true, laidLooks := .later }
def DecRingUptoCardSaid : Prop := Claim7.holds Tryd.pinned (.plain (OpenSpec.upto decRingSpec)) decRingUptoCard

/-- THE SECOND FORM's CARD OF 'casuistlaw02.DecOrder'. -/
def decOrderUptoCard : Claim7 := { stood := { row := decOrderUptoRow, standIns := [], harness := (true, "3dc3664276cdb7fbdb9dda3487d1ee11462cc7f58a00183b629c377b9b32c8a8"), looks := false }, kinds := [], alts := [], laidByText := true, laidKinds := [.data], laidTests := true, laidLooks := .later }
def DecOrderUptoCardSaid : Prop := Claim7.holds Tryd.pinned (.plain (OpenSpec.upto decOrderSpec)) decOrderUptoCard

/-- THE SECOND FORM's CARD OF 'casuistlaw02.DecFit'. -/
def decFitUptoCard : Claim7 := { stood := { row := decFitUptoRow, standIns := [], harness := (true, "3dc3664276cdb7fbdb9dda3487d1ee11462cc7f58a00183b629c377b9b32c8a8"), looks := false }, kinds := [], alts := [], laidByText := true, laidKinds := [.data], laidTests := true, laidLooks := .later }
def DecFitUptoCardSaid : Prop := Claim7.holds Tryd.pinned (.plain (OpenSpec.upto decFitSpec)) decFitUptoCard

/-- THE SECOND FORM's CARD OF 'casuistlaw03.QuotSquares'. -/
def quotSquaresUptoCard : Claim7 := { stood := { row := quotSquaresUptoRow, standIns := [], harness := (true, "3dc3664276cdb7fbdb9dda3487d1ee11462cc7f58a00183b629c377b9b32c8a8"), looks := false }, kinds := [], alts := [], laidByText := true, laidKinds := [.data], laidTests := true, laidLooks := .later }
def QuotSquaresUptoCardSaid : Prop := Claim7.holds Tryd.pinned (.plain (OpenSpec.upto quotSquaresSpec)) quotSquaresUptoCard

/-- THE SECOND FORM's CARD OF 'casuistlaw03.QuotOnes'. -/
def quotOnesUptoCard : Claim7 := { stood := { row := quotOnesUptoRow, standIns := [], harness := (true, "3dc3664276cdb7fbdb9dda3487d1ee11462cc7f58a00183b629c377b9b32c8a8"), looks := false }, kinds := [], alts := [], laidByText := true, laidKinds := [.data], laidTests := true, laidLooks := .later }
def QuotOnesUptoCardSaid : Prop := Claim7.holds Tryd.pinned (.plain (OpenSpec.upto quotOnesSpec)) quotOnesUptoCard
end Rows
end Go.Proofs.YteboohejlkionaaDoor
