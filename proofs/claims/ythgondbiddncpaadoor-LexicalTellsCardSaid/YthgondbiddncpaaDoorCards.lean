/-
  DERIVED. GIVEN WITH THE SEED: THE CARDS: each row of YthgondbiddncpaaDoorRows.lean that lists a variable, with what it lists TIED to the program's text (the seventh form; the later family's looks); each row that meets fmt, with fmt's text TOLD by the authors' own Lean function (tested against real Go, not proved from fmt's source: count such statements apart). THE CARD IS WHAT COUNTS. Prove the row's statement (the work); the ties are given (YthgondbiddncpaaDoorTie.lean); close each card by the builder's one call (the guide's Derived/Test/ToyasCard.lean, 'card_holds'). Laid BY PROGRAM, IN A SANDBOX (cutbox-door.mjs). By AI agents, Wed Nov 11 2026. No macro, syntax, notation, axiom, sorry.
-/
import Derived.Test.YthgondbiddncpaaDoorRows
import GoSem.ClaimSeven
namespace Go.Proofs.YthgondbiddncpaaDoor
namespace Rows

/-- THE TIED CARD OF 'casuistlaw09.LexicalTells'. -/
def lexicalTellsCard : Claim7 := { stood := { row := lexicalTellsRow, standIns := [], harness := (true, "9cfdf3402a1eef91b67e5c7aec7865d5de70e3b0aaffcf63e6e8664cbcc9d6d8"), looks := false }, kinds := [], alts := [], laidByText := true, laidKinds := [.data, .data, .data], laidTests := true, laidLooks := .later }
def LexicalTellsCardSaid : Prop := Claim7.holds Tryd.pinned (.plain (OpenSpec.ofChange lexicalTellsSpec)) lexicalTellsCard

/-- THE TIED CARD OF 'casuistlaw09.LexicalReads'. -/
def lexicalReadsCard : Claim7 := { stood := { row := lexicalReadsRow, standIns := [], harness := (true, "9cfdf3402a1eef91b67e5c7aec7865d5de70e3b0aaffcf63e6e8664cbcc9d6d8"), looks := false }, kinds := [], alts := [], laidByText := true, laidKinds := [.data, .data, .data], laidTests := true, laidLooks := .later }
def LexicalReadsCardSaid : Prop := Claim7.holds Tryd.pinned (.plain (OpenSpec.ofChange lexicalReadsSpec)) lexicalReadsCard

/-- THE TIED CARD OF 'casuistlaw09.LexicalSpans'. -/
def lexicalSpansCard : Claim7 := { stood := { row := lexicalSpansRow, standIns := [], harness := (true, "9cfdf3402a1eef91b67e5c7aec7865d5de70e3b0aaffcf63e6e8664cbcc9d6d8"), looks := false }, kinds := [], alts := [], laidByText := true, laidKinds := [.data, .data, .data], laidTests := true, laidLooks := .later }
def LexicalSpansCardSaid : Prop := Claim7.holds Tryd.pinned (.plain (OpenSpec.ofChange lexicalSpansSpec)) lexicalSpansCard

/-- THE TIED CARD OF 'casuistlaw09.LexicalMays'. -/
def lexicalMaysCard : Claim7 := { stood := { row := lexicalMaysRow, standIns := [], harness := (true, "9cfdf3402a1eef91b67e5c7aec7865d5de70e3b0aaffcf63e6e8664cbcc9d6d8"), looks := false }, kinds := [], alts := [], laidByText := true, laidKinds := [.data, .data, .data], laidTests := true, laidLooks := .later }
def LexicalMaysCardSaid : Prop := Claim7.holds Tryd.pinned (.plain (OpenSpec.ofChange lexicalMaysSpec)) lexicalMaysCard

/-- THE TIED CARD OF 'casuistlaw09.LexicalOrder'. -/
def lexicalOrderCard : Claim7 := { stood := { row := lexicalOrderRow, standIns := [], harness := (true, "9cfdf3402a1eef91b67e5c7aec7865d5de70e3b0aaffcf63e6e8664cbcc9d6d8"), looks := false }, kinds := [], alts := [], laidByText := true, laidKinds := [.data, .data, .data], laidTests := true, laidLooks := .later }
def LexicalOrderCardSaid : Prop := Claim7.holds Tryd.pinned (.plain (OpenSpec.ofChange lexicalOrderSpec)) lexicalOrderCard

/-- THE SECOND FORM's CARD OF 'casuistlaw09.LexicalTells'. -/
def lexicalTellsUptoCard : Claim7 := { stood := { row := lexicalTellsUptoRow, standIns := [], harness := (true, "9cfdf3402a1eef91b67e5c7aec7865d5de70e3b0aaffcf63e6e8664cbcc9d6d8"), looks := false }, kinds := [], alts := [], laidByText := true, laidKinds := [.data, .data, .data], laidTests := true, laidLooks := .later }
def LexicalTellsUptoCardSaid : Prop := Claim7.holds Tryd.pinned (.plain (OpenSpec.upto lexicalTellsSpec)) lexicalTellsUptoCard

/-- THE SECOND FORM's CARD OF 'casuistlaw09.LexicalReads'. -/
def lexicalReadsUptoCard : Claim7 := { stood := { row := lexicalReadsUptoRow, standIns := [], harness := (true, "9cfdf3402a1eef91b67e5c7aec7865d5de70e3b0aaffcf63e6e8664cbcc9d6d8"), looks := false }, kinds := [], alts := [], laidByText := true, laidKinds := [.data, .data, .data], laidTests := true, laidLooks := .later }
def LexicalReadsUptoCardSaid : Prop := Claim7.holds Tryd.pinned (.plain (OpenSpec.upto lexicalReadsSpec)) lexicalReadsUptoCard

/-- THE SECOND FORM's CARD OF 'casuistlaw09.LexicalSpans'. -/
def lexicalSpansUptoCard : Claim7 := { stood := { row := lexicalSpansUptoRow, standIns := [], harness := (true, "9cfdf3402a1eef91b67e5c7aec7865d5de70e3b0aaffcf63e6e8664cbcc9d6d8"), looks := false }, kinds := [], alts := [], laidByText := true, laidKinds := [.data, .data, .data], laidTests := true, laidLooks := .later }
def LexicalSpansUptoCardSaid : Prop := Claim7.holds Tryd.pinned (.plain (OpenSpec.upto lexicalSpansSpec)) lexicalSpansUptoCard

/-- THE SECOND FORM's CARD OF 'casuistlaw09.LexicalMays'. -/
def lexicalMaysUptoCard : Claim7 := { stood := { row := lexicalMaysUptoRow, standIns := [], harness := (true, "9cfdf3402a1eef91b67e5c7aec7865d5de70e3b0aaffcf63e6e8664cbcc9d6d8"), looks := false }, kinds := [], alts := [], laidByText := true, laidKinds := [.data, .data, .data], laidTests := true, laidLooks := .later }
def LexicalMaysUptoCardSaid : Prop := Claim7.holds Tryd.pinned (.plain (OpenSpec.upto lexicalMaysSpec)) lexicalMaysUptoCard

/-- THE SECOND FORM's CARD OF 'casuistlaw09.LexicalOrder'. -/
def lexicalOrderUptoCard : Claim7 := { stood := { row := lexicalOrderUptoRow, standIns := [], harness := (true, "9cfdf3402a1eef91b67e5c7aec7865d5de70e3b0aaffcf63e6e8664cbcc9d6d8"), looks := false }, kinds := [], alts := [], laidByText := true, laidKinds := [.data, .data, .data], laidTests := true, laidLooks := .later }
def LexicalOrderUptoCardSaid : Prop := Claim7.holds Tryd.pinned (.plain (OpenSpec.upto lexicalOrderSpec)) lexicalOrderUptoCard
end Rows
end Go.Proofs.YthgondbiddncpaaDoor
