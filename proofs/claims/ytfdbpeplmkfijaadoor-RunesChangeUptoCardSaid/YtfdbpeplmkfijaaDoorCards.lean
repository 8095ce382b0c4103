/-
  DERIVED. GIVEN WITH THE SEED: THE CARDS: each row of YtfdbpeplmkfijaaDoorRows.lean that lists a variable, with what it lists TIED to the program's text (the seventh form; the later family's looks); each row that meets fmt, with fmt's text TOLD by the authors' own Lean function (tested against real Go, not proved from fmt's source: count such statements apart). THE CARD IS WHAT COUNTS. Prove the row's statement (the work); the ties are given (YtfdbpeplmkfijaaDoorTie.lean); close each card by the builder's one call (the guide's Derived/Test/ToyasCard.lean, 'card_holds'). Laid BY PROGRAM, IN A SANDBOX (cutbox-door.mjs). By AI agents, Wed Nov 11 2026. No macro, syntax, notation, axiom, sorry.
-/
import Derived.Test.YtfdbpeplmkfijaaDoorRows
import GoSem.ClaimSeven
namespace Go.Proofs.YtfdbpeplmkfijaaDoor
namespace Rows

/-- THE TIED CARD OF 'casuistlaw15.RunesParts'. -/
def runesPartsCard : Claim7 := { stood := { row := runesPartsRow, standIns := [], harness := (true, "a952d0f8760fda0ae4d9921f94d56a2c6c3ff4d6eab8314d44244700971b6087"), looks := false }, kinds := [], alts := [], laidByText := true, laidKinds := [.data, .pinned], laidTests := true, laidLooks := .later }
def RunesPartsCardSaid : Prop := Claim7.holds Tryd.pinned (.plain (OpenSpec.ofChange runesPartsSpec)) runesPartsCard

/-- THE TIED CARD OF 'casuistlaw15.RunesChange'. -/
def runesChangeCard : Claim7 := { stood := { row := runesChangeRow, standIns := [], harness := (true, "a952d0f8760fda0ae4d9921f94d56a2c6c3ff4d6eab8314d44244700971b6087"), looks := false }, kinds := [], alts := [], laidByText := true, laidKinds := [.data, .pinned], laidTests := true, laidLooks := .later }
def RunesChangeCardSaid : Prop := Claim7.holds Tryd.pinned (.plain (OpenSpec.ofChange runesChangeSpec)) runesChangeCard

/-- THE TIED CARD OF 'casuistlaw15.RunesWhole'. -/
def runesWholeCard : Claim7 := { stood := { row := runesWholeRow, standIns := [], harness := (true, "a952d0f8760fda0ae4d9921f94d56a2c6c3ff4d6eab8314d44244700971b6087"), looks := false }, kinds := [], alts := [], laidByText := true, laidKinds := [.data, .pinned], laidTests := true, laidLooks := .later }
def RunesWholeCardSaid : Prop := Claim7.holds Tryd.pinned (.plain (OpenSpec.ofChange runesWholeSpec)) runesWholeCard

/-- THE TIED CARD OF 'casuistlaw15.RunesSigns'. -/
def runesSignsCard : Claim7 := { stood := { row := runesSignsRow, standIns := [], harness := (true, "a952d0f8760fda0ae4d9921f94d56a2c6c3ff4d6eab8314d44244700971b6087"), looks := false }, kinds := [], alts := [], laidByText := true, laidKinds := [.data, .pinned], laidTests := true, laidLooks := .later }
def RunesSignsCardSaid : Prop := Claim7.holds Tryd.pinned (.plain (OpenSpec.ofChange runesSignsSpec)) runesSignsCard

/-- THE SECOND FORM's CARD OF 'casuistlaw15.RunesParts'. -/
def runesPartsUptoCard : Claim7 := { stood := { row := runesPartsUptoRow, standIns := [], harness := (true, "a952d0f8760fda0ae4d9921f94d56a2c6c3ff4d6eab8314d44244700971b6087"), looks := false }, kinds := [], alts := [], laidByText := true, laidKinds := [.data, .pinned], laidTests := true, laidLooks := .later }
def RunesPartsUptoCardSaid : Prop := Claim7.holds Tryd.pinned (.plain (OpenSpec.upto runesPartsSpec)) runesPartsUptoCard

/-- THE SECOND FORM's CARD OF 'casuistlaw15.RunesChange'. -/
def runesChangeUptoCard : Claim7 := { stood := { row := runesChangeUptoRow, standIns := [], harness := (true, "a952d0f8760fda0ae4d9921f94d56a2c6c3ff4d6eab8314d44244700971b6087"), looks := false }, kinds := [], alts := [], laidByText := true, laidKinds := [.data, .pinned], laidTests := true, laidLooks := .later }
def RunesChangeUptoCardSaid : Prop := Claim7.holds Tryd.pinned (.plain (OpenSpec.upto runesChangeSpec)) runesChangeUptoCard

/-- THE SECOND FORM's CARD OF 'casuistlaw15.RunesWhole'. -/
def runesWholeUptoCard : Claim7 := { stood := { row := runesWholeUptoRow, standIns := [], harness := (true, "a952d0f8760fda0ae4d9921f94d56a2c6c3ff4d6eab8314d44244700971b6087"), looks := false }, kinds := [], alts := [], laidByText := true, laidKinds := [.data, .pinned], laidTests := true, laidLooks := .later }
def RunesWholeUptoCardSaid : Prop := Claim7.holds Tryd.pinned (.plain (OpenSpec.upto runesWholeSpec)) runesWholeUptoCard

/-- THE SECOND FORM's CARD OF 'casuistlaw15.RunesSigns'. -/
def runesSignsUptoCard : Claim7 := { stood := { row := runesSignsUptoRow, standIns := [], harness := (true, "a952d0f8760fda0ae4d9921f94d56a2c6c3ff4d6eab8314d44244700971b6087"), looks := false }, kinds := [], alts := [], laidByText := true, laidKinds := [.data, .pinned], laidTests := true, laidLooks := .later }
def RunesSignsUptoCardSaid : Prop := Claim7.holds Tryd.pinned (.plain (OpenSpec.upto runesSignsSpec)) runesSignsUptoCard
end Rows
end Go.Proofs.YtfdbpeplmkfijaaDoor
