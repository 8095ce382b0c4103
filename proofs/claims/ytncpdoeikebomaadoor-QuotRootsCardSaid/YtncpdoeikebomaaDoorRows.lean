/-
  NARROWER THAN 'FOR EVERY INPUT', by the rows' own cells (each row's printed sentence says how): QuotRoots: laid · RoundScales: laid · RoundWholes: laid · RoundNear: laid.
  DERIVED. THE GIVEN ROWS OF THIS SEAT. 4 by the template 'for every input the law returns true; each argument reads behind the call as it read before'; 0 by the template 'total and deterministic' (their statements: YtncpdoeikebomaaDoorTotals.lean).
  GIVEN WITH THE SEED: the statements are not yours to turn. If you find one false, say at which input.
  Laid BY PROGRAM, IN A SANDBOX (cutbox-rows.mjs): the forced cells as the released guide's own fill.sh prints them over the translation 8bbd34a080bf3074… (all of the seat's roots in one cut). By AI agents, Wed Nov 11 2026. No macro, syntax, notation, axiom, sorry.
-/
import Derived.Test.YtncpdoeikebomaaDoorChecked
import GoSem.Claim
import GoSem.ClaimJoined
import GoSem.ClaimMapViews
import Derived.JoinedTies
import Derived.KernelRfl
namespace Go.Proofs.YtncpdoeikebomaaDoor
/- THE CELL 'sum', in the pinned program and in every row, IS THE sha256 OF THE DUMP (.gsa) THAT YtncpdoeikebomaaDoorProg.lean LOADS. Nothing in Lean hashes anything: it is a label: what it is worth is what the hold of that sum in a sandbox is worth. -/
noncomputable def Tryd.pinned : Pinned := { name := "ytncpdoeikebomaadoor", sum := "8bbd34a080bf3074e02cd1232cb3cf8a7f64b9044954e5f15581c8a0192a6aae", checked := Tryd.checked }
namespace Rows
def none {H : Type} : Left H := { results := [], args := [] }

/- WHAT THE LISTED PACKAGE-LEVEL VARIABLES READ AS WHEN THE CALL BEGINS. Each datum BY PROGRAM (the guide's laid-datum.mjs) off the statement by which the dump's own 'gosem.cut.vars' lays the variable. In a bare row this is a premise. The card (YtncpdoeikebomaaDoorCards.lean) ties it to the program's text. -/
def laid_casuist_wide_wordTen {H : Type} : DataW H := .agg [.lit (.int .u64 1), .lit (.int .u64 10), .lit (.int .u64 100), .lit (.int .u64 1000), .lit (.int .u64 10000), .lit (.int .u64 100000), .lit (.int .u64 1000000), .lit (.int .u64 10000000), .lit (.int .u64 100000000), .lit (.int .u64 1000000000), .lit (.int .u64 10000000000), .lit (.int .u64 100000000000), .lit (.int .u64 1000000000000), .lit (.int .u64 10000000000000), .lit (.int .u64 100000000000000), .lit (.int .u64 1000000000000000), .lit (.int .u64 10000000000000000), .lit (.int .u64 100000000000000000), .lit (.int .u64 1000000000000000000), .lit (.int .u64 10000000000000000000)]

/-- 'casuistlaw03.QuotRoots': WHATEVER THE INPUT: true; the input reads as it did. -/
def quotRootsSpec : ChangeSpec := { name := "quotRoots", fn := fun _ => fun
  | [d] => { results := [.lit (.bool true)], args := [d] }
  | _ => none }
def quotRootsRow : OpenClaim := { program := "ytncpdoeikebomaadoor", sum := "8bbd34a080bf3074e02cd1232cb3cf8a7f64b9044954e5f15581c8a0192a6aae", func := "casuist/casuistlaw03.QuotRoots", spec := "quotRoots", inPlace := ["math/bits.Add64", "math/bits.Sub64"], named := ["casuist/wide.wordTen", "math/bits.divideError", "math/bits.overflowError"], apart := false, laid := [("casuist/wide.wordTen", laid_casuist_wide_wordTen)] }
def QuotRootsSaid : Prop := quotRootsRow.holds Tryd.pinned (OpenSpec.ofChange quotRootsSpec)

/-- ITS FALSE NEIGHBOUR: 'it returns false'. Refute it at one input. -/
def quotRootsWrong : ChangeSpec := { name := "quotRoots", fn := fun _ => fun
  | [d] => { results := [.lit (.bool false)], args := [d] }
  | _ => none }
def QuotRootsWrongFalsely : Prop := quotRootsRow.holds Tryd.pinned (OpenSpec.ofChange quotRootsWrong)

/-- 'casuistlaw04.RoundScales': WHATEVER THE INPUT: true; the input reads as it did. -/
def roundScalesSpec : ChangeSpec := { name := "roundScales", fn := fun _ => fun
  | [d1, d2, d3] => { results := [.lit (.bool true)], args := [d1, d2, d3] }
  | _ => none }
def roundScalesRow : OpenClaim := { program := "ytncpdoeikebomaadoor", sum := "8bbd34a080bf3074e02cd1232cb3cf8a7f64b9044954e5f15581c8a0192a6aae", func := "casuist/casuistlaw04.RoundScales", spec := "roundScales", inPlace := ["math/bits.Add64", "math/bits.Sub64"], recurses := true, named := ["casuist/wide.wordTen", "math/bits.divideError", "math/bits.overflowError"], apart := false, laid := [("casuist/wide.wordTen", laid_casuist_wide_wordTen)] }
def RoundScalesSaid : Prop := roundScalesRow.holds Tryd.pinned (OpenSpec.ofChange roundScalesSpec)

/-- ITS FALSE NEIGHBOUR: 'it returns false'. Refute it at one input. -/
def roundScalesWrong : ChangeSpec := { name := "roundScales", fn := fun _ => fun
  | [d1, d2, d3] => { results := [.lit (.bool false)], args := [d1, d2, d3] }
  | _ => none }
def RoundScalesWrongFalsely : Prop := roundScalesRow.holds Tryd.pinned (OpenSpec.ofChange roundScalesWrong)

/-- 'casuistlaw04.RoundWholes': WHATEVER THE INPUT: true; the input reads as it did. -/
def roundWholesSpec : ChangeSpec := { name := "roundWholes", fn := fun _ => fun
  | [d1, d2] => { results := [.lit (.bool true)], args := [d1, d2] }
  | _ => none }
def roundWholesRow : OpenClaim := { program := "ytncpdoeikebomaadoor", sum := "8bbd34a080bf3074e02cd1232cb3cf8a7f64b9044954e5f15581c8a0192a6aae", func := "casuist/casuistlaw04.RoundWholes", spec := "roundWholes", inPlace := ["math/bits.Add64", "math/bits.Sub64"], recurses := true, named := ["casuist/wide.wordTen", "math/bits.divideError", "math/bits.overflowError"], apart := false, laid := [("casuist/wide.wordTen", laid_casuist_wide_wordTen)] }
def RoundWholesSaid : Prop := roundWholesRow.holds Tryd.pinned (OpenSpec.ofChange roundWholesSpec)

/-- ITS FALSE NEIGHBOUR: 'it returns false'. Refute it at one input. -/
def roundWholesWrong : ChangeSpec := { name := "roundWholes", fn := fun _ => fun
  | [d1, d2] => { results := [.lit (.bool false)], args := [d1, d2] }
  | _ => none }
def RoundWholesWrongFalsely : Prop := roundWholesRow.holds Tryd.pinned (OpenSpec.ofChange roundWholesWrong)

/-- 'casuistlaw04.RoundNear': WHATEVER THE INPUT: true; the input reads as it did. -/
def roundNearSpec : ChangeSpec := { name := "roundNear", fn := fun _ => fun
  | [d] => { results := [.lit (.bool true)], args := [d] }
  | _ => none }
def roundNearRow : OpenClaim := { program := "ytncpdoeikebomaadoor", sum := "8bbd34a080bf3074e02cd1232cb3cf8a7f64b9044954e5f15581c8a0192a6aae", func := "casuist/casuistlaw04.RoundNear", spec := "roundNear", inPlace := ["math/bits.Add64", "math/bits.Sub64"], recurses := true, named := ["casuist/wide.wordTen", "math/bits.divideError", "math/bits.overflowError"], apart := false, laid := [("casuist/wide.wordTen", laid_casuist_wide_wordTen)] }
def RoundNearSaid : Prop := roundNearRow.holds Tryd.pinned (OpenSpec.ofChange roundNearSpec)

/-- ITS FALSE NEIGHBOUR: 'it returns false'. Refute it at one input. -/
def roundNearWrong : ChangeSpec := { name := "roundNear", fn := fun _ => fun
  | [d] => { results := [.lit (.bool false)], args := [d] }
  | _ => none }
def RoundNearWrongFalsely : Prop := roundNearRow.holds Tryd.pinned (OpenSpec.ofChange roundNearWrong)

/- THE SECOND FORM. 'bulk': how many values and letters a reading holds, each counted each time it is reached (what is shared counts as often as it is met; a slice's spare places count too). A statement '..UptoSaid' is the law's where the arguments, and the package variables that the reading takes, are together of bulk at most 1048576: NARROWER than '..Said'. Prove '..Said' where nothing that the law and all that it calls make is longer than what came in: it says more and counts as full. Else prove '..UptoSaid'. A law counts once. -/
mutual
def uptoBulk {H : Type} : DataW H → Nat
  | .lit (.string bytes) => bytes.length + 1
  | .lit _ => 1
  | .nil => 1
  | .ptr d => uptoBulk d + 1
  | .slice elems spare => uptoBulkAll elems + uptoBulkAll spare + 1
  | .agg parts => uptoBulkAll parts + 1
  | .iface _ d => uptoBulk d + 1
  | .map entries => uptoBulkEntries entries + 1
  | .held _ => 1
def uptoBulkAll {H : Type} : List (DataW H) → Nat
  | [] => 0
  | d :: r => uptoBulk d + uptoBulkAll r
def uptoBulkEntries {H : Type} : List (Lit × DataW H) → Nat
  | [] => 0
  | x :: r => uptoBulkEntry x + uptoBulkEntries r
def uptoBulkEntry {H : Type} : Lit × DataW H → Nat
  | (.string bytes, d) => bytes.length + uptoBulk d + 1
  | (_, d) => uptoBulk d + 1
 end
def uptoSmall : (H : Type) → List (DataW H) → Bool := fun _ ds => decide (uptoBulkAll ds ≤ 1048576)
def OpenSpec.upto (s : _root_.Go.ChangeSpec) : _root_.Go.OpenSpec := { _root_.Go.OpenSpec.ofChange s with cond := some uptoSmall }

/-- 'casuistlaw03.QuotRoots', WHERE WHAT IT READS IS OF BULK AT MOST 1048576: true; the input reads as it did. -/
def quotRootsUptoRow : OpenClaim := { program := "ytncpdoeikebomaadoor", sum := "8bbd34a080bf3074e02cd1232cb3cf8a7f64b9044954e5f15581c8a0192a6aae", func := "casuist/casuistlaw03.QuotRoots", spec := "quotRoots", inPlace := ["math/bits.Add64", "math/bits.Sub64"], named := ["casuist/wide.wordTen", "math/bits.divideError", "math/bits.overflowError"], apart := false, laid := [("casuist/wide.wordTen", laid_casuist_wide_wordTen)], narrowed := true }
def QuotRootsUptoSaid : Prop := quotRootsUptoRow.holds Tryd.pinned (OpenSpec.upto quotRootsSpec)

/-- 'casuistlaw04.RoundScales', WHERE WHAT IT READS IS OF BULK AT MOST 1048576: true; the input reads as it did. -/
def roundScalesUptoRow : OpenClaim := { program := "ytncpdoeikebomaadoor", sum := "8bbd34a080bf3074e02cd1232cb3cf8a7f64b9044954e5f15581c8a0192a6aae", func := "casuist/casuistlaw04.RoundScales", spec := "roundScales", inPlace := ["math/bits.Add64", "math/bits.Sub64"], recurses := true, named := ["casuist/wide.wordTen", "math/bits.divideError", "math/bits.overflowError"], apart := false, laid := [("casuist/wide.wordTen", laid_casuist_wide_wordTen)], narrowed := true }
def RoundScalesUptoSaid : Prop := roundScalesUptoRow.holds Tryd.pinned (OpenSpec.upto roundScalesSpec)

/-- 'casuistlaw04.RoundWholes', WHERE WHAT IT READS IS OF BULK AT MOST 1048576: true; the input reads as it did. -/
def roundWholesUptoRow : OpenClaim := { program := "ytncpdoeikebomaadoor", sum := "8bbd34a080bf3074e02cd1232cb3cf8a7f64b9044954e5f15581c8a0192a6aae", func := "casuist/casuistlaw04.RoundWholes", spec := "roundWholes", inPlace := ["math/bits.Add64", "math/bits.Sub64"], recurses := true, named := ["casuist/wide.wordTen", "math/bits.divideError", "math/bits.overflowError"], apart := false, laid := [("casuist/wide.wordTen", laid_casuist_wide_wordTen)], narrowed := true }
def RoundWholesUptoSaid : Prop := roundWholesUptoRow.holds Tryd.pinned (OpenSpec.upto roundWholesSpec)

/-- 'casuistlaw04.RoundNear', WHERE WHAT IT READS IS OF BULK AT MOST 1048576: true; the input reads as it did. -/
def roundNearUptoRow : OpenClaim := { program := "ytncpdoeikebomaadoor", sum := "8bbd34a080bf3074e02cd1232cb3cf8a7f64b9044954e5f15581c8a0192a6aae", func := "casuist/casuistlaw04.RoundNear", spec := "roundNear", inPlace := ["math/bits.Add64", "math/bits.Sub64"], recurses := true, named := ["casuist/wide.wordTen", "math/bits.divideError", "math/bits.overflowError"], apart := false, laid := [("casuist/wide.wordTen", laid_casuist_wide_wordTen)], narrowed := true }
def RoundNearUptoSaid : Prop := roundNearUptoRow.holds Tryd.pinned (OpenSpec.upto roundNearSpec)

end Rows
end Go.Proofs.YtncpdoeikebomaaDoor
