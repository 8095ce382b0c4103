/-
  NARROWER THAN 'FOR EVERY INPUT', by the rows' own cells (each row's printed sentence says how): DecTells: laid · DecRing: laid · DecOrder: laid · DecFit: laid · QuotSquares: laid · QuotOnes: laid.
  DERIVED. THE GIVEN ROWS OF THIS SEAT. 6 by the template 'for every input the law returns true; each argument reads behind the call as it read before'; 0 by the template 'total and deterministic' (their statements: YteboohejlkionaaDoorTotals.lean).
  GIVEN WITH THE SEED: the statements are not yours to turn. If you find one false, say at which input.
  Laid BY PROGRAM, IN A SANDBOX (cutbox-rows.mjs): the forced cells as the released guide's own fill.sh prints them over the translation ca2f0cc73bc8cd0f… (all of the seat's roots in one cut). By AI agents, Wed Nov 11 2026. No macro, syntax, notation, axiom, sorry.
-/
import Derived.Test.YteboohejlkionaaDoorChecked
import GoSem.Claim
import GoSem.ClaimJoined
import GoSem.ClaimMapViews
import Derived.JoinedTies
import Derived.KernelRfl
namespace Go.Proofs.YteboohejlkionaaDoor
/- THE CELL 'sum', in the pinned program and in every row, IS THE sha256 OF THE DUMP (.gsa) THAT YteboohejlkionaaDoorProg.lean LOADS. Nothing in Lean hashes anything: it is a label: what it is worth is what the hold of that sum in a sandbox is worth. -/
noncomputable def Tryd.pinned : Pinned := { name := "yteboohejlkionaadoor", sum := "ca2f0cc73bc8cd0fe4e31066c703f1669093becb589c243ced888095b6bbc5f7", checked := Tryd.checked }
namespace Rows
def none {H : Type} : Left H := { results := [], args := [] }

/- WHAT THE LISTED PACKAGE-LEVEL VARIABLES READ AS WHEN THE CALL BEGINS. Each datum BY PROGRAM (the guide's laid-datum.mjs) off the statement by which the dump's own 'gosem.cut.vars' lays the variable. In a bare row this is a premise. The card (YteboohejlkionaaDoorCards.lean) ties it to the program's text. -/
def laid_casuist_wide_wordTen {H : Type} : DataW H := .agg [.lit (.int .u64 1), .lit (.int .u64 10), .lit (.int .u64 100), .lit (.int .u64 1000), .lit (.int .u64 10000), .lit (.int .u64 100000), .lit (.int .u64 1000000), .lit (.int .u64 10000000), .lit (.int .u64 100000000), .lit (.int .u64 1000000000), .lit (.int .u64 10000000000), .lit (.int .u64 100000000000), .lit (.int .u64 1000000000000), .lit (.int .u64 10000000000000), .lit (.int .u64 100000000000000), .lit (.int .u64 1000000000000000), .lit (.int .u64 10000000000000000), .lit (.int .u64 100000000000000000), .lit (.int .u64 1000000000000000000), .lit (.int .u64 10000000000000000000)]

/-- 'casuistlaw02.DecTells': WHATEVER THE INPUT: true; the input reads as it did. -/
def decTellsSpec : ChangeSpec := { name := "decTells", fn := fun _ => fun
  | [d1, d2, d3, d4, d5] => { results := [.lit (.bool true)], args := [d1, d2, d3, d4, d5] }
  | _ => none }
def decTellsRow : OpenClaim := { program := "yteboohejlkionaadoor", sum := "ca2f0cc73bc8cd0fe4e31066c703f1669093becb589c243ced888095b6bbc5f7", func := "casuist/casuistlaw02.DecTells", spec := "decTells", inPlace := ["math/bits.Add64", "math/bits.Sub64"], recurses := true, named := ["casuist/wide.wordTen", "math/bits.divideError", "math/bits.overflowError"], apart := false, laid := [("casuist/wide.wordTen", laid_casuist_wide_wordTen)] }
def DecTellsSaid : Prop := decTellsRow.holds Tryd.pinned (OpenSpec.ofChange decTellsSpec)

/-- ITS FALSE NEIGHBOUR: 'it returns false'. Refute it at one input. -/
def decTellsWrong : ChangeSpec := { name := "decTells", fn := fun _ => fun
  | [d1, d2, d3, d4, d5] => { results := [.lit (.bool false)], args := [d1, d2, d3, d4, d5] }
  | _ => none }
def DecTellsWrongFalsely : Prop := decTellsRow.holds Tryd.pinned (OpenSpec.ofChange decTellsWrong)

/-- 'casuistlaw02.DecRing': WHATEVER THE INPUT: true; the input reads as it did. -/
def decRingSpec : ChangeSpec := { name := "decRing", fn := fun _ => fun
  | [d1, d2] => { results := [.lit (.bool true)], args := [d1, d2] }
  | _ => none }
def decRingRow : OpenClaim := { program := "yteboohejlkionaadoor", sum := "ca2f0cc73bc8cd0fe4e31066c703f1669093becb589c243ced888095b6bbc5f7", func := "casuist/casuistlaw02.DecRing", spec := "decRing", inPlace := ["math/bits.Add64", "math/bits.Sub64"], recurses := true, named := ["casuist/wide.wordTen", "math/bits.divideError", "math/bits.overflowError"], apart := false, laid := [("casuist/wide.wordTen", laid_casuist_wide_wordTen)] }
def DecRingSaid : Prop := decRingRow.holds Tryd.pinned (OpenSpec.ofChange decRingSpec)

/-- ITS FALSE NEIGHBOUR: 'it returns false'. Refute it at one input. -/
def decRingWrong : ChangeSpec := { name := "decRing", fn := fun _ => fun
  | [d1, d2] => { results := [.lit (.bool false)], args := [d1, d2] }
  | _ => none }
def DecRingWrongFalsely : Prop := decRingRow.holds Tryd.pinned (OpenSpec.ofChange decRingWrong)

/-- 'casuistlaw02.DecOrder': WHATEVER THE INPUT: true; the input reads as it did. -/
def decOrderSpec : ChangeSpec := { name := "decOrder", fn := fun _ => fun
  | [d1, d2, d3] => { results := [.lit (.bool true)], args := [d1, d2, d3] }
  | _ => none }
def decOrderRow : OpenClaim := { program := "yteboohejlkionaadoor", sum := "ca2f0cc73bc8cd0fe4e31066c703f1669093becb589c243ced888095b6bbc5f7", func := "casuist/casuistlaw02.DecOrder", spec := "decOrder", inPlace := ["math/bits.Add64", "math/bits.Sub64"], recurses := true, named := ["casuist/wide.wordTen", "math/bits.divideError", "math/bits.overflowError"], apart := false, laid := [("casuist/wide.wordTen", laid_casuist_wide_wordTen)] }
def DecOrderSaid : Prop := decOrderRow.holds Tryd.pinned (OpenSpec.ofChange decOrderSpec)

/-- ITS FALSE NEIGHBOUR: 'it returns false'. Refute it at one input. -/
def decOrderWrong : ChangeSpec := { name := "decOrder", fn := fun _ => fun
  | [d1, d2, d3] => { results := [.lit (.bool false)], args := [d1, d2, d3] }
  | _ => none }
def DecOrderWrongFalsely : Prop := decOrderRow.holds Tryd.pinned (OpenSpec.ofChange decOrderWrong)

/-- 'casuistlaw02.DecFit': WHATEVER THE INPUT: true; the input reads as it did. -/
def decFitSpec : ChangeSpec := { name := "decFit", fn := fun _ => fun
  | [d1, d2, d3] => { results := [.lit (.bool true)], args := [d1, d2, d3] }
  | _ => none }
def decFitRow : OpenClaim := { program := "yteboohejlkionaadoor", sum := "ca2f0cc73bc8cd0fe4e31066c703f1669093becb589c243ced888095b6bbc5f7", func := "casuist/casuistlaw02.DecFit", spec := "decFit", inPlace := ["math/bits.Add64", "math/bits.Sub64"], recurses := true, named := ["casuist/wide.wordTen", "math/bits.divideError", "math/bits.overflowError"], apart := false, laid := [("casuist/wide.wordTen", laid_casuist_wide_wordTen)] }
def DecFitSaid : Prop := decFitRow.holds Tryd.pinned (OpenSpec.ofChange decFitSpec)

/-- ITS FALSE NEIGHBOUR: 'it returns false'. Refute it at one input. -/
def decFitWrong : ChangeSpec := { name := "decFit", fn := fun _ => fun
  | [d1, d2, d3] => { results := [.lit (.bool false)], args := [d1, d2, d3] }
  | _ => none }
def DecFitWrongFalsely : Prop := decFitRow.holds Tryd.pinned (OpenSpec.ofChange decFitWrong)

/-- 'casuistlaw03.QuotSquares': WHATEVER THE INPUT: true; the input reads as it did. -/
def quotSquaresSpec : ChangeSpec := { name := "quotSquares", fn := fun _ => fun
  | [d1, d2, d3] => { results := [.lit (.bool true)], args := [d1, d2, d3] }
  | _ => none }
def quotSquaresRow : OpenClaim := { program := "yteboohejlkionaadoor", sum := "ca2f0cc73bc8cd0fe4e31066c703f1669093becb589c243ced888095b6bbc5f7", func := "casuist/casuistlaw03.QuotSquares", spec := "quotSquares", inPlace := ["math/bits.Add64", "math/bits.Sub64"], named := ["casuist/wide.wordTen", "math/bits.divideError", "math/bits.overflowError"], apart := false, laid := [("casuist/wide.wordTen", laid_casuist_wide_wordTen)] }
def QuotSquaresSaid : Prop := quotSquaresRow.holds Tryd.pinned (OpenSpec.ofChange quotSquaresSpec)

/-- ITS FALSE NEIGHBOUR: 'it returns false'. Refute it at one input. -/
def quotSquaresWrong : ChangeSpec := { name := "quotSquares", fn := fun _ => fun
  | [d1, d2, d3] => { results := [.lit (.bool false)], args := [d1, d2, d3] }
  | _ => none }
def QuotSquaresWrongFalsely : Prop := quotSquaresRow.holds Tryd.pinned (OpenSpec.ofChange quotSquaresWrong)

/-- 'casuistlaw03.QuotOnes': WHATEVER THE INPUT: true; the input reads as it did. -/
def quotOnesSpec : ChangeSpec := { name := "quotOnes", fn := fun _ => fun
  | [d] => { results := [.lit (.bool true)], args := [d] }
  | _ => none }
def quotOnesRow : OpenClaim := { program := "yteboohejlkionaadoor", sum := "ca2f0cc73bc8cd0fe4e31066c703f1669093becb589c243ced888095b6bbc5f7", func := "casuist/casuistlaw03.QuotOnes", spec := "quotOnes", inPlace := ["math/bits.Add64", "math/bits.Sub64"], named := ["casuist/wide.wordTen", "math/bits.divideError", "math/bits.overflowError"], apart := false, laid := [("casuist/wide.wordTen", laid_casuist_wide_wordTen)] }
def QuotOnesSaid : Prop := quotOnesRow.holds Tryd.pinned (OpenSpec.ofChange quotOnesSpec)

/-- ITS FALSE NEIGHBOUR: 'it returns false'. Refute it at one input. -/
def quotOnesWrong : ChangeSpec := { name := "quotOnes", fn := fun _ => fun
  | [d] => { results := [.lit (.bool false)], args := [d] }
  | _ => none }
def QuotOnesWrongFalsely : Prop := quotOnesRow.holds Tryd.pinned (OpenSpec.ofChange quotOnesWrong)

/- THE SECOND FORM. 'bulk': how many values and letters a reading holds, each counted each time it is reached (what is shared counts as often as it is met; a slice's spare places count too). A statement '..UptoSaid' is the law's where the arguments, and the package variables that the reading takes, are together of bulk at most 1048576: NARROWER than '..Said'. Prove '..Said' where nothing that the law and all that it calls make is longer than what came in: it says more and counts as full. Else prove '..UptoSaid'. A law counts once. -/
mutual
def uptoBulk {H : Type} : DataW H → Nat
  | .lit (.string bytes) => bytes.length + 1
  | .lit _ => 1
  | .nil => 1
  | .ptr d => uptoBulk d + 1
  | .slice elems spare => uptoBulkAll elems + uptoBulkAll spare + 1
  | .agg parts => uptoBulkAll parts + 1
  | .iface _ d => uptoBulk d + 1
  | .map entries => uptoBulkEntries entries + 1
  | .held _ => 1
def uptoBulkAll {H : Type} : List (DataW H) → Nat
  | [] => 0
  | d :: r => uptoBulk d + uptoBulkAll r
def uptoBulkEntries {H : Type} : List (Lit × DataW H) → Nat
  | [] => 0
  | x :: r => uptoBulkEntry x + uptoBulkEntries r
def uptoBulkEntry {H : Type} : Lit × DataW H → Nat
  | (.string bytes, d) => bytes.length + uptoBulk d + 1
  | (_, d) => uptoBulk d + 1
 end
def uptoSmall : (H : Type) → List (DataW H) → Bool := fun _ ds => decide (uptoBulkAll ds ≤ 1048576)
def OpenSpec.upto (s : _root_.Go.ChangeSpec) : _root_.Go.OpenSpec := { _root_.Go.OpenSpec.ofChange s with cond := some uptoSmall }

/-- 'casuistlaw02.DecTells', WHERE WHAT IT READS IS OF BULK AT MOST 1048576: true; the input reads as it did. -/
def decTellsUptoRow : OpenClaim := { program := "yteboohejlkionaadoor", sum := "ca2f0cc73bc8cd0fe4e31066c703f1669093becb589c243ced888095b6bbc5f7", func := "casuist/casuistlaw02.DecTells", spec := "decTells", inPlace := ["math/bits.Add64", "math/bits.Sub64"], recurses := true, named := ["casuist/wide.wordTen", "math/bits.divideError", "math/bits.overflowError"], apart := false, laid := [("casuist/wide.wordTen", laid_casuist_wide_wordTen)], narrowed := true }
def DecTellsUptoSaid : Prop := decTellsUptoRow.holds Tryd.pinned (OpenSpec.upto decTellsSpec)

/-- 'casuistlaw02.DecRing', WHERE WHAT IT READS IS OF BULK AT MOST 1048576: true; the input reads as it did. -/
def decRingUptoRow : OpenClaim := { program := "yteboohejlkionaadoor", sum := "ca2f0cc73bc8cd0fe4e31066c703f1669093becb589c243ced888095b6bbc5f7", func := "casuist/casuistlaw02.DecRing", spec := "decRing", inPlace := ["math/bits.Add64", "math/bits.Sub64"], recurses := true, named := ["casuist/wide.wordTen", "math/bits.divideError", "math/bits.overflowError"], apart := false, laid := [("casuist/wide.wordTen", laid_casuist_wide_wordTen)], narrowed := true }
def DecRingUptoSaid : Prop := decRingUptoRow.holds Tryd.pinned (OpenSpec.upto decRingSpec)

/-- 'casuistlaw02.DecOrder', WHERE WHAT IT READS IS OF BULK AT MOST 1048576: true; the input reads as it did. -/
def decOrderUptoRow : OpenClaim := { program := "yteboohejlkionaadoor", sum := "ca2f0cc73bc8cd0fe4e31066c703f1669093becb589c243ced888095b6bbc5f7", func := "casuist/casuistlaw02.DecOrder", spec := "decOrder", inPlace := ["math/bits.Add64", "math/bits.Sub64"], recurses := true, named := ["casuist/wide.wordTen", "math/bits.divideError", "math/bits.overflowError"], apart := false, laid := [("casuist/wide.wordTen", laid_casuist_wide_wordTen)], narrowed := true }
def DecOrderUptoSaid : Prop := decOrderUptoRow.holds Tryd.pinned (OpenSpec.upto decOrderSpec)

/-- 'casuistlaw02.DecFit', WHERE WHAT IT READS IS OF BULK AT MOST 1048576: true; the input reads as it did. -/
def decFitUptoRow : OpenClaim := { program := "yteboohejlkionaadoor", sum := "ca2f0cc73bc8cd0fe4e31066c703f1669093becb589c243ced888095b6bbc5f7", func := "casuist/casuistlaw02.DecFit", spec := "decFit", inPlace := ["math/bits.Add64", "math/bits.Sub64"], recurses := true, named := ["casuist/wide.wordTen", "math/bits.divideError", "math/bits.overflowError"], apart := false, laid := [("casuist/wide.wordTen", laid_casuist_wide_wordTen)], narrowed := true }
def DecFitUptoSaid : Prop := decFitUptoRow.holds Tryd.pinned (OpenSpec.upto decFitSpec)

/-- 'casuistlaw03.QuotSquares', WHERE WHAT IT READS IS OF BULK AT MOST 1048576: true; the input reads as it did. -/
def quotSquaresUptoRow : OpenClaim := { program := "yteboohejlkionaadoor", sum := "ca2f0cc73bc8cd0fe4e31066c703f1669093becb589c243ced888095b6bbc5f7", func := "casuist/casuistlaw03.QuotSquares", spec := "quotSquares", inPlace := ["math/bits.Add64", "math/bits.Sub64"], named := ["casuist/wide.wordTen", "math/bits.divideError", "math/bits.overflowError"], apart := false, laid := [("casuist/wide.wordTen", laid_casuist_wide_wordTen)], narrowed := true }
def QuotSquaresUptoSaid : Prop := quotSquaresUptoRow.holds Tryd.pinned (OpenSpec.upto quotSquaresSpec)

/-- 'casuistlaw03.QuotOnes', WHERE WHAT IT READS IS OF BULK AT MOST 1048576: true; the input reads as it did. -/
def quotOnesUptoRow : OpenClaim := { program := "yteboohejlkionaadoor", sum := "ca2f0cc73bc8cd0fe4e31066c703f1669093becb589c243ced888095b6bbc5f7", func := "casuist/casuistlaw03.QuotOnes", spec := "quotOnes", inPlace := ["math/bits.Add64", "math/bits.Sub64"], named := ["casuist/wide.wordTen", "math/bits.divideError", "math/bits.overflowError"], apart := false, laid := [("casuist/wide.wordTen", laid_casuist_wide_wordTen)], narrowed := true }
def QuotOnesUptoSaid : Prop := quotOnesUptoRow.holds Tryd.pinned (OpenSpec.upto quotOnesSpec)

end Rows
end Go.Proofs.YteboohejlkionaaDoor
