/-
  DERIVED. GIVEN WITH THE SEED: THE CARDS: each row of YtlcpbmjipplcdaaDoorRows.lean that lists a variable, with what it lists TIED to the program's text (the seventh form; the later family's looks); each row that meets fmt, with fmt's text TOLD by the authors' own Lean function (tested against real Go, not proved from fmt's source: count such statements apart). THE CARD IS WHAT COUNTS. Prove the row's statement (the work); the ties are given (YtlcpbmjipplcdaaDoorTie.lean); close each card by the builder's one call (the guide's Derived/Test/ToyasCard.lean, 'card_holds'). Laid BY PROGRAM, IN A SANDBOX (cutbox-door.mjs). By AI agents, Wed Nov 11 2026. No macro, syntax, notation, axiom, sorry.
-/
import Derived.Test.YtlcpbmjipplcdaaDoorRows
import GoSem.ClaimSeven
namespace Go.Proofs.YtlcpbmjipplcdaaDoor
namespace Rows

/-- THE TIED CARD OF 'casuistlaw01.WideDivs'. -/
def wideDivsCard : Claim7 := { stood := { row := wideDivsRow, standIns := [], harness := (true, "0b30c1e176b63826b627af5cd18c822cb4d70827e53dba8b3685bccaebee0939"), looks := false }, kinds := [], alts := [], laidByText := true, laidKinds := [.data], laidTests := true, laidLooks := .later }
def WideDivsCardSaid : Prop := Claim7.holds Tryd.pinned (.plain (OpenSpec.ofChange wideDivsSpec)) wideDivsCard

/-- THE TIED CARD OF 'casuistlaw01.WideTexts'. -/
def wideTextsCard : Claim7 := { stood := { row := wideTextsRow, standIns := [], harness := (true, "0b30c1e176b63826b627af5cd18c822cb4d70827e53dba8b3685bccaebee0939"), looks := false }, kinds := [], alts := [], laidByText := true, laidKinds := [.data, .data, .data, .data], laidTests := true, laidLooks := .later }
def WideTextsCardSaid : Prop := Claim7.holds Tryd.pinned (.plain (OpenSpec.ofChange wideTextsSpec)) wideTextsCard

/-- THE TIED CARD OF 'casuistlaw01.WideBack'. -/
def wideBackCard : Claim7 := { stood := { row := wideBackRow, standIns := [], harness := (true, "0b30c1e176b63826b627af5cd18c822cb4d70827e53dba8b3685bccaebee0939"), looks := false }, kinds := [], alts := [], laidByText := true, laidKinds := [.data, .data, .data, .data], laidTests := true, laidLooks := .later }
def WideBackCardSaid : Prop := Claim7.holds Tryd.pinned (.plain (OpenSpec.ofChange wideBackSpec)) wideBackCard

/-- THE TIED CARD OF 'casuistlaw02.DecTells'. -/
def decTellsCard : Claim7 := { stood := { row := decTellsRow, standIns := [], harness := (true, "0b30c1e176b63826b627af5cd18c822cb4d70827e53dba8b3685bccaebee0939"), looks := false }, kinds := [], alts := [], laidByText := true, laidKinds := [.data], laidTests := true, laidLooks := .later }
def DecTellsCardSaid : Prop := Claim7.holds Tryd.pinned (.plain (OpenSpec.ofChange decTellsSpec)) decTellsCard

/-- THE TIED CARD OF 'casuistlaw02.DecRing'. -/
def decRingCard : Claim7 := { stood := { row := decRingRow, standIns := [], harness := (true, "0b30c1e176b63826b627af5cd18c822cb4d70827e53dba8b3685bccaebee0939"), looks := false }, kinds := [], alts := [], laidByText := true, laidKinds := [.data], laidTests := true, laidLooks := .later }
def DecRingCardSaid : Prop := Claim7.holds Tryd.pinned (.plain (OpenSpec.ofChange decRingSpec)) decRingCard

/-- THE TIED CARD OF 'casuistlaw02.DecOrder'. -/
def decOrderCard : Claim7 := { stood := { row := decOrderRow, standIns := [], harness := (true, "0b30c1e176b63826b627af5cd18c822cb4d70827e53dba8b3685bccaebee0939"), looks := false }, kinds := [], alts := [], laidByText := true, laidKinds := [.data], laidTests := true, laidLooks := .later }
def DecOrderCardSaid : Prop := Claim7.holds Tryd.pinned (.plain (OpenSpec.ofChange decOrderSpec)) decOrderCard

/-- THE TIED CARD OF 'casuistlaw02.DecFit'. -/
def decFitCard : Claim7 := { stood := { row := decFitRow, standIns := [], harness := (true, "0b30c1e176b63826b627af5cd18c822cb4d70827e53dba8b3685bccaebee0939"), looks := false }, kinds := [], alts := [], laidByText := true, laidKinds := [.data], laidTests := true, laidLooks := .later }
def DecFitCardSaid : Prop := Claim7.holds Tryd.pinned (.plain (OpenSpec.ofChange decFitSpec)) decFitCard

/-- THE SECOND FORM's CARD OF 'casuistlaw01.WideDivs'. -/
def wideDivsUptoCard : Claim7 := { stood := { row := wideDivsUptoRow, standIns := [], harness := (true, "0b30c1e176b63826b627af5cd18c822cb4d70827e53dba8b3685bccaebee0939"), looks := false }, kinds := [], alts := [], laidByText := true, laidKinds := [.data], laidTests := true, laidLooks := .later }
def WideDivsUptoCardSaid : Prop := Claim7.holds Tryd.pinned (.plain (OpenSpec.upto wideDivsSpec)) wideDivsUptoCard

/-- THE SECOND FORM's CARD OF 'casuistlaw01.WideTexts'. -/
def wideTextsUptoCard : Claim7 := { stood := { row := wideTextsUptoRow, standIns := [], harness := (true, "0b30c1e176b63826b627af5cd18c822cb4d70827e53dba8b3685bccaebee0939"), looks := false }, kinds := [], alts := [], laidByText := true, laidKinds := [.data, .data, .data, .data], laidTests := true, laidLooks := .later }
def WideTextsUptoCardSaid : Prop := Claim7.holds Tryd.pinned (.plain (OpenSpec.upto wideTextsSpec)) wideTextsUptoCard

/-- THE SECOND FORM's CARD OF 'casuistlaw01.WideBack'. -/
def wideBackUptoCard : Claim7 := { stood := { row := wideBackUptoRow, standIns := [], harness := (true, "0b30c1e176b63826b627af5cd18c822cb4d70827e53dba8b3685bccaebee0939"), looks := false }, kinds := [], alts := [], laidByText := true, laidKinds := [.data, .data, .data, .data], laidTests := true, laidLooks := .later }
def WideBackUptoCardSaid : Prop := Claim7.holds Tryd.pinned (.plain (OpenSpec.upto wideBackSpec)) wideBackUptoCard

/-- THE SECOND FORM's CARD OF 'casuistlaw02.DecTells'. -/
def decTellsUptoCard : Claim7 := { stood := { row := decTellsUptoRow, standIns := [], harness := (true, "0b30c1e176b63826b627af5cd18c822cb4d70827e53dba8b3685bccaebee0939"), looks := false }, kinds := [], alts := [], laidByText := true, laidKinds := [.data], laidTests := true, laidLooks := .later }
def DecTellsUptoCardSaid : Prop := Claim7.holds Tryd.pinned (.plain (OpenSpec.upto decTellsSpec)) decTellsUptoCard

/-- THE SECOND FORM's CARD OF 'casuistlaw02.DecRing'. -/
def decRingUptoCard : Claim7 := { stood := { row := decRingUptoRow, standIns := [], harness := (true, "0b30c1e176b63826b627af5cd18c822cb4d70827e53dba8b3685bccaebee0939"), looks := false }, kinds := [], alts := [], laidByText := true, laidKinds := [.data], laidTests := true, laidLooks := .later }
def DecRingUptoCardSaid : Prop := Claim7.holds Tryd.pinned (.plain (OpenSpec.upto decRingSpec)) decRingUptoCard

/-- THE SECOND FORM's CARD OF 'casuistlaw02.DecOrder'. -/
def decOrderUptoCard : Claim7 := { stood := { row := decOrderUptoRow, standIns := [], harness := (true, "0b30c1e176b63826b627af5cd18c822cb4d70827e53dba8b3685bccaebee0939"), looks := false }, kinds := [], alts := [], laidByText := true, laidKinds := [.data], laidTests := true, laidLooks := .later }
def DecOrderUptoCardSaid : Prop := Claim7.holds Tryd.pinned (.plain (OpenSpec.upto decOrderSpec)) decOrderUptoCard

/-- THE SECOND FORM's CARD OF 'casuistlaw02.DecFit'. -/
def decFitUptoCard : Claim7 := { stood := { row := decFitUptoRow, standIns := [], harness := (true, "0b30c1e176b63826b627af5cd18c822cb4d70827e53dba8b3685bccaebee0939"), looks := false }, kinds := [], alts := [], laidByText := true, laidKinds := [.data], laidTests := true, laidLooks := .later }
def DecFitUptoCardSaid : Prop := Claim7.holds Tryd.pinned (.plain (OpenSpec.upto decFitSpec)) decFitUptoCard
end Rows
end Go.Proofs.YtlcpbmjipplcdaaDoor
