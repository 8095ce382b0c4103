/-
  NARROWER THAN 'FOR EVERY INPUT', by the rows' own cells (each row's printed sentence says how): SpanSums: laid · SpanTimes: laid · SpanInts: laid · SpanDates: laid · SpanMonths: laid.
  DERIVED. THE GIVEN ROWS OF THIS SEAT. 5 by the template 'for every input the law returns true; each argument reads behind the call as it read before'; 0 by the template 'total and deterministic' (their statements: YtkkddflclakphaaDoorTotals.lean).
  GIVEN WITH THE SEED: the statements are not yours to turn. If you find one false, say at which input.
  Laid BY PROGRAM, IN A SANDBOX (cutbox-rows.mjs): the forced cells as the released guide's own fill.sh prints them over the translation b6e21c8cbc9231cc… (all of the seat's roots in one cut). By AI agents, Wed Nov 11 2026. No macro, syntax, notation, axiom, sorry.
-/
import Derived.Test.YtkkddflclakphaaDoorChecked
import GoSem.Claim
import GoSem.ClaimJoined
import GoSem.ClaimMapViews
import Derived.JoinedTies
import Derived.KernelRfl
namespace Go.Proofs.YtkkddflclakphaaDoor
/- THE CELL 'sum', in the pinned program and in every row, IS THE sha256 OF THE DUMP (.gsa) THAT YtkkddflclakphaaDoorProg.lean LOADS. Nothing in Lean hashes anything: it is a label: what it is worth is what the hold of that sum in a sandbox is worth. -/
noncomputable def Tryd.pinned : Pinned := { name := "ytkkddflclakphaadoor", sum := "b6e21c8cbc9231cc8e0f34a4cfad449ea83193c9764d5ee1d36cd80609ca3d62", checked := Tryd.checked }
namespace Rows
def none {H : Type} : Left H := { results := [], args := [] }

/- WHAT THE LISTED PACKAGE-LEVEL VARIABLES READ AS WHEN THE CALL BEGINS. Each datum BY PROGRAM (the guide's laid-datum.mjs) off the statement by which the dump's own 'gosem.cut.vars' lays the variable. In a bare row this is a premise. The card (YtkkddflclakphaaDoorCards.lean) ties it to the program's text. -/
def laid_casuist_wide_wordTen {H : Type} : DataW H := .agg [.lit (.int .u64 1), .lit (.int .u64 10), .lit (.int .u64 100), .lit (.int .u64 1000), .lit (.int .u64 10000), .lit (.int .u64 100000), .lit (.int .u64 1000000), .lit (.int .u64 10000000), .lit (.int .u64 100000000), .lit (.int .u64 1000000000), .lit (.int .u64 10000000000), .lit (.int .u64 100000000000), .lit (.int .u64 1000000000000), .lit (.int .u64 10000000000000), .lit (.int .u64 100000000000000), .lit (.int .u64 1000000000000000), .lit (.int .u64 10000000000000000), .lit (.int .u64 100000000000000000), .lit (.int .u64 1000000000000000000), .lit (.int .u64 10000000000000000000)]

/-- 'casuistlaw10.SpanSums': WHATEVER THE INPUT: true; the input reads as it did. -/
def spanSumsSpec : ChangeSpec := { name := "spanSums", fn := fun _ => fun
  | [d1, d2] => { results := [.lit (.bool true)], args := [d1, d2] }
  | _ => none }
def spanSumsRow : OpenClaim := { program := "ytkkddflclakphaadoor", sum := "b6e21c8cbc9231cc8e0f34a4cfad449ea83193c9764d5ee1d36cd80609ca3d62", func := "casuist/casuistlaw10.SpanSums", spec := "spanSums", inPlace := ["math/bits.Add64", "math/bits.Sub64"], named := ["casuist/wide.wordTen", "math/bits.divideError", "math/bits.overflowError"], apart := false, laid := [("casuist/wide.wordTen", laid_casuist_wide_wordTen)] }
def SpanSumsSaid : Prop := spanSumsRow.holds Tryd.pinned (OpenSpec.ofChange spanSumsSpec)

/-- ITS FALSE NEIGHBOUR: 'it returns false'. Refute it at one input. -/
def spanSumsWrong : ChangeSpec := { name := "spanSums", fn := fun _ => fun
  | [d1, d2] => { results := [.lit (.bool false)], args := [d1, d2] }
  | _ => none }
def SpanSumsWrongFalsely : Prop := spanSumsRow.holds Tryd.pinned (OpenSpec.ofChange spanSumsWrong)

/-- 'casuistlaw10.SpanTimes': WHATEVER THE INPUT: true; the input reads as it did. -/
def spanTimesSpec : ChangeSpec := { name := "spanTimes", fn := fun _ => fun
  | [d1, d2] => { results := [.lit (.bool true)], args := [d1, d2] }
  | _ => none }
def spanTimesRow : OpenClaim := { program := "ytkkddflclakphaadoor", sum := "b6e21c8cbc9231cc8e0f34a4cfad449ea83193c9764d5ee1d36cd80609ca3d62", func := "casuist/casuistlaw10.SpanTimes", spec := "spanTimes", inPlace := ["math/bits.Add64", "math/bits.Sub64"], named := ["casuist/wide.wordTen", "math/bits.divideError", "math/bits.overflowError"], apart := false, laid := [("casuist/wide.wordTen", laid_casuist_wide_wordTen)] }
def SpanTimesSaid : Prop := spanTimesRow.holds Tryd.pinned (OpenSpec.ofChange spanTimesSpec)

/-- ITS FALSE NEIGHBOUR: 'it returns false'. Refute it at one input. -/
def spanTimesWrong : ChangeSpec := { name := "spanTimes", fn := fun _ => fun
  | [d1, d2] => { results := [.lit (.bool false)], args := [d1, d2] }
  | _ => none }
def SpanTimesWrongFalsely : Prop := spanTimesRow.holds Tryd.pinned (OpenSpec.ofChange spanTimesWrong)

/-- 'casuistlaw10.SpanInts': WHATEVER THE INPUT: true; the input reads as it did. -/
def spanIntsSpec : ChangeSpec := { name := "spanInts", fn := fun _ => fun
  | [d1, d2] => { results := [.lit (.bool true)], args := [d1, d2] }
  | _ => none }
def spanIntsRow : OpenClaim := { program := "ytkkddflclakphaadoor", sum := "b6e21c8cbc9231cc8e0f34a4cfad449ea83193c9764d5ee1d36cd80609ca3d62", func := "casuist/casuistlaw10.SpanInts", spec := "spanInts", inPlace := ["math/bits.Add64", "math/bits.Sub64"], named := ["casuist/wide.wordTen", "math/bits.divideError", "math/bits.overflowError"], apart := false, laid := [("casuist/wide.wordTen", laid_casuist_wide_wordTen)] }
def SpanIntsSaid : Prop := spanIntsRow.holds Tryd.pinned (OpenSpec.ofChange spanIntsSpec)

/-- ITS FALSE NEIGHBOUR: 'it returns false'. Refute it at one input. -/
def spanIntsWrong : ChangeSpec := { name := "spanInts", fn := fun _ => fun
  | [d1, d2] => { results := [.lit (.bool false)], args := [d1, d2] }
  | _ => none }
def SpanIntsWrongFalsely : Prop := spanIntsRow.holds Tryd.pinned (OpenSpec.ofChange spanIntsWrong)

/-- 'casuistlaw10.SpanDates': WHATEVER THE INPUT: true; the input reads as it did. -/
def spanDatesSpec : ChangeSpec := { name := "spanDates", fn := fun _ => fun
  | [d1, d2, d3, d4, d5, d6] => { results := [.lit (.bool true)], args := [d1, d2, d3, d4, d5, d6] }
  | _ => none }
def spanDatesRow : OpenClaim := { program := "ytkkddflclakphaadoor", sum := "b6e21c8cbc9231cc8e0f34a4cfad449ea83193c9764d5ee1d36cd80609ca3d62", func := "casuist/casuistlaw10.SpanDates", spec := "spanDates", inPlace := ["math/bits.Add64", "math/bits.Sub64"], named := ["casuist/wide.wordTen", "math/bits.divideError", "math/bits.overflowError"], apart := false, laid := [("casuist/wide.wordTen", laid_casuist_wide_wordTen)] }
def SpanDatesSaid : Prop := spanDatesRow.holds Tryd.pinned (OpenSpec.ofChange spanDatesSpec)

/-- ITS FALSE NEIGHBOUR: 'it returns false'. Refute it at one input. -/
def spanDatesWrong : ChangeSpec := { name := "spanDates", fn := fun _ => fun
  | [d1, d2, d3, d4, d5, d6] => { results := [.lit (.bool false)], args := [d1, d2, d3, d4, d5, d6] }
  | _ => none }
def SpanDatesWrongFalsely : Prop := spanDatesRow.holds Tryd.pinned (OpenSpec.ofChange spanDatesWrong)

/-- 'casuistlaw10.SpanMonths': WHATEVER THE INPUT: true; the input reads as it did. -/
def spanMonthsSpec : ChangeSpec := { name := "spanMonths", fn := fun _ => fun
  | [d1, d2, d3, d4, d5, d6] => { results := [.lit (.bool true)], args := [d1, d2, d3, d4, d5, d6] }
  | _ => none }
def spanMonthsRow : OpenClaim := { program := "ytkkddflclakphaadoor", sum := "b6e21c8cbc9231cc8e0f34a4cfad449ea83193c9764d5ee1d36cd80609ca3d62", func := "casuist/casuistlaw10.SpanMonths", spec := "spanMonths", inPlace := ["math/bits.Add64", "math/bits.Sub64"], named := ["casuist/wide.wordTen", "math/bits.divideError", "math/bits.overflowError"], apart := false, laid := [("casuist/wide.wordTen", laid_casuist_wide_wordTen)] }
def SpanMonthsSaid : Prop := spanMonthsRow.holds Tryd.pinned (OpenSpec.ofChange spanMonthsSpec)

/-- ITS FALSE NEIGHBOUR: 'it returns false'. Refute it at one input. -/
def spanMonthsWrong : ChangeSpec := { name := "spanMonths", fn := fun _ => fun
  | [d1, d2, d3, d4, d5, d6] => { results := [.lit (.bool false)], args := [d1, d2, d3, d4, d5, d6] }
  | _ => none }
def SpanMonthsWrongFalsely : Prop := spanMonthsRow.holds Tryd.pinned (OpenSpec.ofChange spanMonthsWrong)

/- THE SECOND FORM. 'bulk': how many values and letters a reading holds, each counted each time it is reached (what is shared counts as often as it is met; a slice's spare places count too). A statement '..UptoSaid' is the law's where the arguments, and the package variables that the reading takes, are together of bulk at most 1048576: NARROWER than '..Said'. Prove '..Said' where nothing that the law and all that it calls make is longer than what came in: it says more and counts as full. Else prove '..UptoSaid'. A law counts once. -/
mutual
def uptoBulk {H : Type} : DataW H → Nat
  | .lit (.string bytes) => bytes.length + 1
  | .lit _ => 1
  | .nil => 1
  | .ptr d => uptoBulk d + 1
  | .slice elems spare => uptoBulkAll elems + uptoBulkAll spare + 1
  | .agg parts => uptoBulkAll parts + 1
  | .iface _ d => uptoBulk d + 1
  | .map entries => uptoBulkEntries entries + 1
  | .held _ => 1
def uptoBulkAll {H : Type} : List (DataW H) → Nat
  | [] => 0
  | d :: r => uptoBulk d + uptoBulkAll r
def uptoBulkEntries {H : Type} : List (Lit × DataW H) → Nat
  | [] => 0
  | x :: r => uptoBulkEntry x + uptoBulkEntries r
def uptoBulkEntry {H : Type} : Lit × DataW H → Nat
  | (.string bytes, d) => bytes.length + uptoBulk d + 1
  | (_, d) => uptoBulk d + 1
 end
def uptoSmall : (H : Type) → List (DataW H) → Bool := fun _ ds => decide (uptoBulkAll ds ≤ 1048576)
def OpenSpec.upto (s : _root_.Go.ChangeSpec) : _root_.Go.OpenSpec := { _root_.Go.OpenSpec.ofChange s with cond := some uptoSmall }

/-- 'casuistlaw10.SpanSums', WHERE WHAT IT READS IS OF BULK AT MOST 1048576: true; the input reads as it did. -/
def spanSumsUptoRow : OpenClaim := { program := "ytkkddflclakphaadoor", sum := "b6e21c8cbc9231cc8e0f34a4cfad449ea83193c9764d5ee1d36cd80609ca3d62", func := "casuist/casuistlaw10.SpanSums", spec := "spanSums", inPlace := ["math/bits.Add64", "math/bits.Sub64"], named := ["casuist/wide.wordTen", "math/bits.divideError", "math/bits.overflowError"], apart := false, laid := [("casuist/wide.wordTen", laid_casuist_wide_wordTen)], narrowed := true }
def SpanSumsUptoSaid : Prop := spanSumsUptoRow.holds Tryd.pinned (OpenSpec.upto spanSumsSpec)

/-- 'casuistlaw10.SpanTimes', WHERE WHAT IT READS IS OF BULK AT MOST 1048576: true; the input reads as it did. -/
def spanTimesUptoRow : OpenClaim := { program := "ytkkddflclakphaadoor", sum := "b6e21c8cbc9231cc8e0f34a4cfad449ea83193c9764d5ee1d36cd80609ca3d62", func := "casuist/casuistlaw10.SpanTimes", spec := "spanTimes", inPlace := ["math/bits.Add64", "math/bits.Sub64"], named := ["casuist/wide.wordTen", "math/bits.divideError", "math/bits.overflowError"], apart := false, laid := [("casuist/wide.wordTen", laid_casuist_wide_wordTen)], narrowed := true }
def SpanTimesUptoSaid : Prop := spanTimesUptoRow.holds Tryd.pinned (OpenSpec.upto spanTimesSpec)

/-- 'casuistlaw10.SpanInts', WHERE WHAT IT READS IS OF BULK AT MOST 1048576: true; the input reads as it did. -/
def spanIntsUptoRow : OpenClaim := { program := "ytkkddflclakphaadoor", sum := "b6e21c8cbc9231cc8e0f34a4cfad449ea83193c9764d5ee1d36cd80609ca3d62", func := "casuist/casuistlaw10.SpanInts", spec := "spanInts", inPlace := ["math/bits.Add64", "math/bits.Sub64"], named := ["casuist/wide.wordTen", "math/bits.divideError", "math/bits.overflowError"], apart := false, laid := [("casuist/wide.wordTen", laid_casuist_wide_wordTen)], narrowed := true }
def SpanIntsUptoSaid : Prop := spanIntsUptoRow.holds Tryd.pinned (OpenSpec.upto spanIntsSpec)

/-- 'casuistlaw10.SpanDates', WHERE WHAT IT READS IS OF BULK AT MOST 1048576: true; the input reads as it did. -/
def spanDatesUptoRow : OpenClaim := { program := "ytkkddflclakphaadoor", sum := "b6e21c8cbc9231cc8e0f34a4cfad449ea83193c9764d5ee1d36cd80609ca3d62", func := "casuist/casuistlaw10.SpanDates", spec := "spanDates", inPlace := ["math/bits.Add64", "math/bits.Sub64"], named := ["casuist/wide.wordTen", "math/bits.divideError", "math/bits.overflowError"], apart := false, laid := [("casuist/wide.wordTen", laid_casuist_wide_wordTen)], narrowed := true }
def SpanDatesUptoSaid : Prop := spanDatesUptoRow.holds Tryd.pinned (OpenSpec.upto spanDatesSpec)

/-- 'casuistlaw10.SpanMonths', WHERE WHAT IT READS IS OF BULK AT MOST 1048576: true; the input reads as it did. -/
def spanMonthsUptoRow : OpenClaim := { program := "ytkkddflclakphaadoor", sum := "b6e21c8cbc9231cc8e0f34a4cfad449ea83193c9764d5ee1d36cd80609ca3d62", func := "casuist/casuistlaw10.SpanMonths", spec := "spanMonths", inPlace := ["math/bits.Add64", "math/bits.Sub64"], named := ["casuist/wide.wordTen", "math/bits.divideError", "math/bits.overflowError"], apart := false, laid := [("casuist/wide.wordTen", laid_casuist_wide_wordTen)], narrowed := true }
def SpanMonthsUptoSaid : Prop := spanMonthsUptoRow.holds Tryd.pinned (OpenSpec.upto spanMonthsSpec)

end Rows
end Go.Proofs.YtkkddflclakphaaDoor
