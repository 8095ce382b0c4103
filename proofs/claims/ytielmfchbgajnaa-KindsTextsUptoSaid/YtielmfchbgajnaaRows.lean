/-
  NARROWER THAN 'FOR EVERY INPUT', by the rows' own cells (each row's printed sentence says how): KindsMay: loops · KindsConform: loops · KindsLead: loops · KindsJoin: loops · KindsAll: loops · KindsTexts: loops.
  DERIVED. THE GIVEN ROWS OF THIS SEAT. 6 by the template 'for every input the law returns true; each argument reads behind the call as it read before'; 0 by the template 'total and deterministic' (their statements: YtielmfchbgajnaaTotals.lean).
  GIVEN WITH THE SEED: the statements are not yours to turn. If you find one false, say at which input.
  Laid BY PROGRAM, IN A SANDBOX (cutbox-rows.mjs): the forced cells as the released guide's own fill.sh prints them over the translation d2da9460968eb067… (all of the seat's roots in one cut). By AI agents, Wed Nov 11 2026. No macro, syntax, notation, axiom, sorry.
-/
import Derived.Test.YtielmfchbgajnaaChecked
import GoSem.Claim
import GoSem.ClaimJoined
import GoSem.ClaimMapViews
import Derived.JoinedTies
import Derived.KernelRfl
namespace Go.Proofs.Ytielmfchbgajnaa
/- THE CELL 'sum', in the pinned program and in every row, IS THE sha256 OF THE DUMP (.gsa) THAT YtielmfchbgajnaaProg.lean LOADS. Nothing in Lean hashes anything: it is a label: what it is worth is what the hold of that sum in a sandbox is worth. -/
noncomputable def Try.pinned : Pinned := { name := "ytielmfchbgajnaa", sum := "d2da9460968eb067d1cede1b76e0d805210f8ace1a2a63d47f3c099cacd807de", checked := Try.checked }
namespace Rows
def none {H : Type} : Left H := { results := [], args := [] }

/-- 'casuistlaw13.KindsMay': WHATEVER THE INPUT: true; the input reads as it did. -/
def kindsMaySpec : ChangeSpec := { name := "kindsMay", fn := fun _ => fun
  | [d1, d2, d3] => { results := [.lit (.bool true)], args := [d1, d2, d3] }
  | _ => none }
def kindsMayRow : OpenClaim := { program := "ytielmfchbgajnaa", sum := "d2da9460968eb067d1cede1b76e0d805210f8ace1a2a63d47f3c099cacd807de", func := "casuist/casuistlaw13.KindsMay", spec := "kindsMay", inPlace := ["internal/abi.NoEscape"], unfollowed := true, recurses := true, loops := true, apart := false }
def KindsMaySaid : Prop := kindsMayRow.holds Try.pinned (OpenSpec.ofChange kindsMaySpec)

/-- ITS FALSE NEIGHBOUR: 'it returns false'. Refute it at one input. -/
def kindsMayWrong : ChangeSpec := { name := "kindsMay", fn := fun _ => fun
  | [d1, d2, d3] => { results := [.lit (.bool false)], args := [d1, d2, d3] }
  | _ => none }
def KindsMayWrongFalsely : Prop := kindsMayRow.holds Try.pinned (OpenSpec.ofChange kindsMayWrong)

/-- 'casuistlaw13.KindsConform': WHATEVER THE INPUT: true; the input reads as it did. -/
def kindsConformSpec : ChangeSpec := { name := "kindsConform", fn := fun _ => fun
  | [d1, d2] => { results := [.lit (.bool true)], args := [d1, d2] }
  | _ => none }
def kindsConformRow : OpenClaim := { program := "ytielmfchbgajnaa", sum := "d2da9460968eb067d1cede1b76e0d805210f8ace1a2a63d47f3c099cacd807de", func := "casuist/casuistlaw13.KindsConform", spec := "kindsConform", inPlace := ["internal/abi.NoEscape"], recurses := true, loops := true, apart := false }
def KindsConformSaid : Prop := kindsConformRow.holds Try.pinned (OpenSpec.ofChange kindsConformSpec)

/-- ITS FALSE NEIGHBOUR: 'it returns false'. Refute it at one input. -/
def kindsConformWrong : ChangeSpec := { name := "kindsConform", fn := fun _ => fun
  | [d1, d2] => { results := [.lit (.bool false)], args := [d1, d2] }
  | _ => none }
def KindsConformWrongFalsely : Prop := kindsConformRow.holds Try.pinned (OpenSpec.ofChange kindsConformWrong)

/-- 'casuistlaw13.KindsLead': WHATEVER THE INPUT: true; the input reads as it did. -/
def kindsLeadSpec : ChangeSpec := { name := "kindsLead", fn := fun _ => fun
  | [d1, d2, d3] => { results := [.lit (.bool true)], args := [d1, d2, d3] }
  | _ => none }
def kindsLeadRow : OpenClaim := { program := "ytielmfchbgajnaa", sum := "d2da9460968eb067d1cede1b76e0d805210f8ace1a2a63d47f3c099cacd807de", func := "casuist/casuistlaw13.KindsLead", spec := "kindsLead", inPlace := ["internal/abi.NoEscape"], recurses := true, loops := true, apart := false }
def KindsLeadSaid : Prop := kindsLeadRow.holds Try.pinned (OpenSpec.ofChange kindsLeadSpec)

/-- ITS FALSE NEIGHBOUR: 'it returns false'. Refute it at one input. -/
def kindsLeadWrong : ChangeSpec := { name := "kindsLead", fn := fun _ => fun
  | [d1, d2, d3] => { results := [.lit (.bool false)], args := [d1, d2, d3] }
  | _ => none }
def KindsLeadWrongFalsely : Prop := kindsLeadRow.holds Try.pinned (OpenSpec.ofChange kindsLeadWrong)

/-- 'casuistlaw13.KindsJoin': WHATEVER THE INPUT: true; the input reads as it did. -/
def kindsJoinSpec : ChangeSpec := { name := "kindsJoin", fn := fun _ => fun
  | [d1, d2, d3] => { results := [.lit (.bool true)], args := [d1, d2, d3] }
  | _ => none }
def kindsJoinRow : OpenClaim := { program := "ytielmfchbgajnaa", sum := "d2da9460968eb067d1cede1b76e0d805210f8ace1a2a63d47f3c099cacd807de", func := "casuist/casuistlaw13.KindsJoin", spec := "kindsJoin", inPlace := ["internal/abi.NoEscape"], unfollowed := true, recurses := true, loops := true, apart := false }
def KindsJoinSaid : Prop := kindsJoinRow.holds Try.pinned (OpenSpec.ofChange kindsJoinSpec)

/-- ITS FALSE NEIGHBOUR: 'it returns false'. Refute it at one input. -/
def kindsJoinWrong : ChangeSpec := { name := "kindsJoin", fn := fun _ => fun
  | [d1, d2, d3] => { results := [.lit (.bool false)], args := [d1, d2, d3] }
  | _ => none }
def KindsJoinWrongFalsely : Prop := kindsJoinRow.holds Try.pinned (OpenSpec.ofChange kindsJoinWrong)

/-- 'casuistlaw13.KindsAll': WHATEVER THE INPUT: true; the input reads as it did. -/
def kindsAllSpec : ChangeSpec := { name := "kindsAll", fn := fun _ => fun
  | [d] => { results := [.lit (.bool true)], args := [d] }
  | _ => none }
def kindsAllRow : OpenClaim := { program := "ytielmfchbgajnaa", sum := "d2da9460968eb067d1cede1b76e0d805210f8ace1a2a63d47f3c099cacd807de", func := "casuist/casuistlaw13.KindsAll", spec := "kindsAll", inPlace := ["internal/abi.NoEscape"], unfollowed := true, recurses := true, loops := true, apart := false }
def KindsAllSaid : Prop := kindsAllRow.holds Try.pinned (OpenSpec.ofChange kindsAllSpec)

/-- ITS FALSE NEIGHBOUR: 'it returns false'. Refute it at one input. -/
def kindsAllWrong : ChangeSpec := { name := "kindsAll", fn := fun _ => fun
  | [d] => { results := [.lit (.bool false)], args := [d] }
  | _ => none }
def KindsAllWrongFalsely : Prop := kindsAllRow.holds Try.pinned (OpenSpec.ofChange kindsAllWrong)

/-- 'casuistlaw13.KindsTexts': WHATEVER THE INPUT: true; the input reads as it did. -/
def kindsTextsSpec : ChangeSpec := { name := "kindsTexts", fn := fun _ => fun
  | [d1, d2, d3] => { results := [.lit (.bool true)], args := [d1, d2, d3] }
  | _ => none }
def kindsTextsRow : OpenClaim := { program := "ytielmfchbgajnaa", sum := "d2da9460968eb067d1cede1b76e0d805210f8ace1a2a63d47f3c099cacd807de", func := "casuist/casuistlaw13.KindsTexts", spec := "kindsTexts", inPlace := ["internal/abi.NoEscape"], recurses := true, loops := true, apart := false }
def KindsTextsSaid : Prop := kindsTextsRow.holds Try.pinned (OpenSpec.ofChange kindsTextsSpec)

/-- ITS FALSE NEIGHBOUR: 'it returns false'. Refute it at one input. -/
def kindsTextsWrong : ChangeSpec := { name := "kindsTexts", fn := fun _ => fun
  | [d1, d2, d3] => { results := [.lit (.bool false)], args := [d1, d2, d3] }
  | _ => none }
def KindsTextsWrongFalsely : Prop := kindsTextsRow.holds Try.pinned (OpenSpec.ofChange kindsTextsWrong)

/- THE SECOND FORM. 'bulk': how many values and letters a reading holds, each counted each time it is reached (what is shared counts as often as it is met; a slice's spare places count too). A statement '..UptoSaid' is the law's where the arguments, and the package variables that the reading takes, are together of bulk at most 1048576: NARROWER than '..Said'. Prove '..Said' where nothing that the law and all that it calls make is longer than what came in: it says more and counts as full. Else prove '..UptoSaid'. A law counts once. -/
mutual
def uptoBulk {H : Type} : DataW H → Nat
  | .lit (.string bytes) => bytes.length + 1
  | .lit _ => 1
  | .nil => 1
  | .ptr d => uptoBulk d + 1
  | .slice elems spare => uptoBulkAll elems + uptoBulkAll spare + 1
  | .agg parts => uptoBulkAll parts + 1
  | .iface _ d => uptoBulk d + 1
  | .map entries => uptoBulkEntries entries + 1
  | .held _ => 1
def uptoBulkAll {H : Type} : List (DataW H) → Nat
  | [] => 0
  | d :: r => uptoBulk d + uptoBulkAll r
def uptoBulkEntries {H : Type} : List (Lit × DataW H) → Nat
  | [] => 0
  | x :: r => uptoBulkEntry x + uptoBulkEntries r
def uptoBulkEntry {H : Type} : Lit × DataW H → Nat
  | (.string bytes, d) => bytes.length + uptoBulk d + 1
  | (_, d) => uptoBulk d + 1
 end
def uptoSmall : (H : Type) → List (DataW H) → Bool := fun _ ds => decide (uptoBulkAll ds ≤ 1048576)
def OpenSpec.upto (s : _root_.Go.ChangeSpec) : _root_.Go.OpenSpec := { _root_.Go.OpenSpec.ofChange s with cond := some uptoSmall }

/-- 'casuistlaw13.KindsMay', WHERE WHAT IT READS IS OF BULK AT MOST 1048576: true; the input reads as it did. -/
def kindsMayUptoRow : OpenClaim := { program := "ytielmfchbgajnaa", sum := "d2da9460968eb067d1cede1b76e0d805210f8ace1a2a63d47f3c099cacd807de", func := "casuist/casuistlaw13.KindsMay", spec := "kindsMay", inPlace := ["internal/abi.NoEscape"], unfollowed := true, recurses := true, loops := true, apart := false, narrowed := true }
def KindsMayUptoSaid : Prop := kindsMayUptoRow.holds Try.pinned (OpenSpec.upto kindsMaySpec)

/-- 'casuistlaw13.KindsConform', WHERE WHAT IT READS IS OF BULK AT MOST 1048576: true; the input reads as it did. -/
def kindsConformUptoRow : OpenClaim := { program := "ytielmfchbgajnaa", sum := "d2da9460968eb067d1cede1b76e0d805210f8ace1a2a63d47f3c099cacd807de", func := "casuist/casuistlaw13.KindsConform", spec := "kindsConform", inPlace := ["internal/abi.NoEscape"], recurses := true, loops := true, apart := false, narrowed := true }
def KindsConformUptoSaid : Prop := kindsConformUptoRow.holds Try.pinned (OpenSpec.upto kindsConformSpec)

/-- 'casuistlaw13.KindsLead', WHERE WHAT IT READS IS OF BULK AT MOST 1048576: true; the input reads as it did. -/
def kindsLeadUptoRow : OpenClaim := { program := "ytielmfchbgajnaa", sum := "d2da9460968eb067d1cede1b76e0d805210f8ace1a2a63d47f3c099cacd807de", func := "casuist/casuistlaw13.KindsLead", spec := "kindsLead", inPlace := ["internal/abi.NoEscape"], recurses := true, loops := true, apart := false, narrowed := true }
def KindsLeadUptoSaid : Prop := kindsLeadUptoRow.holds Try.pinned (OpenSpec.upto kindsLeadSpec)

/-- 'casuistlaw13.KindsJoin', WHERE WHAT IT READS IS OF BULK AT MOST 1048576: true; the input reads as it did. -/
def kindsJoinUptoRow : OpenClaim := { program := "ytielmfchbgajnaa", sum := "d2da9460968eb067d1cede1b76e0d805210f8ace1a2a63d47f3c099cacd807de", func := "casuist/casuistlaw13.KindsJoin", spec := "kindsJoin", inPlace := ["internal/abi.NoEscape"], unfollowed := true, recurses := true, loops := true, apart := false, narrowed := true }
def KindsJoinUptoSaid : Prop := kindsJoinUptoRow.holds Try.pinned (OpenSpec.upto kindsJoinSpec)

/-- 'casuistlaw13.KindsAll', WHERE WHAT IT READS IS OF BULK AT MOST 1048576: true; the input reads as it did. -/
def kindsAllUptoRow : OpenClaim := { program := "ytielmfchbgajnaa", sum := "d2da9460968eb067d1cede1b76e0d805210f8ace1a2a63d47f3c099cacd807de", func := "casuist/casuistlaw13.KindsAll", spec := "kindsAll", inPlace := ["internal/abi.NoEscape"], unfollowed := true, recurses := true, loops := true, apart := false, narrowed := true }
def KindsAllUptoSaid : Prop := kindsAllUptoRow.holds Try.pinned (OpenSpec.upto kindsAllSpec)

/-- 'casuistlaw13.KindsTexts', WHERE WHAT IT READS IS OF BULK AT MOST 1048576: true; the input reads as it did. -/
def kindsTextsUptoRow : OpenClaim := { program := "ytielmfchbgajnaa", sum := "d2da9460968eb067d1cede1b76e0d805210f8ace1a2a63d47f3c099cacd807de", func := "casuist/casuistlaw13.KindsTexts", spec := "kindsTexts", inPlace := ["internal/abi.NoEscape"], recurses := true, loops := true, apart := false, narrowed := true }
def KindsTextsUptoSaid : Prop := kindsTextsUptoRow.holds Try.pinned (OpenSpec.upto kindsTextsSpec)

end Rows
end Go.Proofs.Ytielmfchbgajnaa
