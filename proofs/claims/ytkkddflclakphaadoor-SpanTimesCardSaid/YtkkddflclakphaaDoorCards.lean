/-
  DERIVED. GIVEN WITH THE SEED: THE CARDS: each row of YtkkddflclakphaaDoorRows.lean that lists a variable, with what it lists TIED to the program's text (the seventh form; the later family's looks); each row that meets fmt, with fmt's text TOLD by the authors' own Lean function (tested against real Go, not proved from fmt's source: count such statements apart). THE CARD IS WHAT COUNTS. Prove the row's statement (the work); the ties are given (YtkkddflclakphaaDoorTie.lean); close each card by the builder's one call (the guide's Derived/Test/ToyasCard.lean, 'card_holds'). Laid BY PROGRAM, IN A SANDBOX (cutbox-door.mjs). By AI agents, Wed Nov 11 2026. No macro, syntax, notation, axiom, sorry.
-/
import Derived.Test.YtkkddflclakphaaDoorRows
import GoSem.ClaimSeven
namespace Go.Proofs.YtkkddflclakphaaDoor
namespace Rows

/-- THE TIED CARD OF 'casuistlaw10.SpanSums'. -/
def spanSumsCard : Claim7 := { stood := { row := spanSumsRow, standIns := [], harness := (true, "f8d30271d8d33723bc0fb7234ad90e1ef2357378a754b68c97eb2d469d64768c"), looks := false }, kinds := [], alts := [], laidByText := true, laidKinds := [.data], laidTests := true, laidLooks := .later }
def SpanSumsCardSaid : Prop := Claim7.holds Tryd.pinned (.plain (OpenSpec.ofChange spanSumsSpec)) spanSumsCard

/-- THE TIED CARD OF 'casuistlaw10.SpanTimes'. -/
def spanTimesCard : Claim7 := { stood := { row := spanTimesRow, standIns := [], harness := (true, "f8d30271d8d33723bc0fb7234ad90e1ef2357378a754b68c97eb2d469d64768c"), looks := false }, kinds := [], alts := [], laidByText := true, laidKinds := [.data], laidTests := true, laidLooks := .later }
def SpanTimesCardSaid : Prop := Claim7.holds Tryd.pinned (.plain (OpenSpec.ofChange spanTimesSpec)) spanTimesCard

/-- THE TIED CARD OF 'casuistlaw10.SpanInts'. -/
def spanIntsCard : Claim7 := { stood := { row := spanIntsRow, standIns := [], harness := (true, "f8d30271d8d33723bc0fb7234ad90e1ef2357378a754b68c97eb2d469d64768c"), looks := false }, kinds := [], alts := [], laidByText := true, laidKinds := [.data], laidTests := true, laidLooks := .later }
def SpanIntsCardSaid : Prop := Claim7.holds Tryd.pinned (.plain (OpenSpec.ofChange spanIntsSpec)) spanIntsCard

/-- THE TIED CARD OF 'casuistlaw10.SpanDates'. -/
def spanDatesCard : Claim7 := { stood := { row := spanDatesRow, standIns := [], harness := (true, "f8d30271d8d33723bc0fb7234ad90e1ef2357378a754b68c97eb2d469d64768c"), looks := false }, kinds := [], alts := [], laidByText := true, laidKinds := [.data], laidTests := true, laidLooks := .later }
def SpanDatesCardSaid : Prop := Claim7.holds Tryd.pinned (.plain (OpenSpec.ofChange spanDatesSpec)) spanDatesCard

/-- THE TIED CARD OF 'casuistlaw10.SpanMonths'. -/
def spanMonthsCard : Claim7 := { stood := { row := spanMonthsRow, standIns := [], harness := (true, "f8d30271d8d33723bc0fb7234ad90e1ef2357378a754b68c97eb2d469d64768c"), looks := false }, kinds := [], alts := [], laidByText := true, laidKinds := [.data], laidTests := true, laidLooks := .later }
def SpanMonthsCardSaid : Prop := Claim7.holds Tryd.pinned (.plain (OpenSpec.ofChange spanMonthsSpec)) spanMonthsCard

/-- THE SECOND FORM's CARD OF 'casuistlaw10.SpanSums'. -/
def spanSumsUptoCard : Claim7 := { stood := { row := spanSumsUptoRow, standIns := [], harness := (true, "f8d30271d8d33723bc0fb7234ad90e1ef2357378a754b68c97eb2d469d64768c"), looks := false }, kinds := [], alts := [], laidByText := true, laidKinds := [.data], laidTests := true, laidLooks := .later }
def SpanSumsUptoCardSaid : Prop := Claim7.holds Tryd.pinned (.plain (OpenSpec.upto spanSumsSpec)) spanSumsUptoCard

/-- THE SECOND FORM's CARD OF 'casuistlaw10.SpanTimes'. -/
def spanTimesUptoCard : Claim7 := { stood := { row := spanTimesUptoRow, standIns := [], harness := (true, "f8d30271d8d33723bc0fb7234ad90e1ef2357378a754b68c97eb2d469d64768c"), looks := false }, kinds := [], alts := [], laidByText := true, laidKinds := [.data], laidTests := true, laidLooks := .later }
def SpanTimesUptoCardSaid : Prop := Claim7.holds Tryd.pinned (.plain (OpenSpec.upto spanTimesSpec)) spanTimesUptoCard

/-- THE SECOND FORM's CARD OF 'casuistlaw10.SpanInts'. -/
def spanIntsUptoCard : Claim7 := { stood := { row := spanIntsUptoRow, standIns := [], harness := (true, "f8d30271d8d33723bc0fb7234ad90e1ef2357378a754b68c97eb2d469d64768c"), looks := false }, kinds := [], alts := [], laidByText := true, laidKinds := [.data], laidTests := true, laidLooks := .later }
def SpanIntsUptoCardSaid : Prop := Claim7.holds Tryd.pinned (.plain (OpenSpec.upto spanIntsSpec)) spanIntsUptoCard

/-- THE SECOND FORM's CARD OF 'casuistlaw10.SpanDates'. -/
def spanDatesUptoCard : Claim7 := { stood := { row := spanDatesUptoRow, standIns := [], harness := (true, "f8d30271d8d33723bc0fb7234ad90e1ef2357378a754b68c97eb2d469d64768c"), looks := false }, kinds := [], alts := [], laidByText := true, laidKinds := [.data], laidTests := true, laidLooks := .later }
def SpanDatesUptoCardSaid : Prop := Claim7.holds Tryd.pinned (.plain (OpenSpec.upto spanDatesSpec)) spanDatesUptoCard

/-- THE SECOND FORM's CARD OF 'casuistlaw10.SpanMonths'. -/
def spanMonthsUptoCard : Claim7 := { stood := { row := spanMonthsUptoRow, standIns := [], harness := (true, "f8d30271d8d33723bc0fb7234ad90e1ef2357378a754b68c97eb2d469d64768c"), looks := false }, kinds := [], alts := [], laidByText := true, laidKinds := [.data], laidTests := true, laidLooks := .later }
def SpanMonthsUptoCardSaid : Prop := Claim7.holds Tryd.pinned (.plain (OpenSpec.upto spanMonthsSpec)) spanMonthsUptoCard
end Rows
end Go.Proofs.YtkkddflclakphaaDoor
