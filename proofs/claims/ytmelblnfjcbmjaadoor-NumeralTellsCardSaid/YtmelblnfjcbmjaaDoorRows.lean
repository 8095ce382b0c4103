/-
  NARROWER THAN 'FOR EVERY INPUT', by the rows' own cells (each row's printed sentence says how): QuotRoots: laid · RoundScales: laid · RoundWholes: laid · NumeralTells: laid · NumeralOne: laid · NumeralBack: laid · NumeralShifts: laid.
  DERIVED. THE GIVEN ROWS OF THIS SEAT. 7 by the template 'for every input the law returns true; each argument reads behind the call as it read before'; 0 by the template 'total and deterministic' (their statements: YtmelblnfjcbmjaaDoorTotals.lean).
  GIVEN WITH THE SEED: the statements are not yours to turn. If you find one false, say at which input.
  Laid BY PROGRAM, IN A SANDBOX (cutbox-rows.mjs): the forced cells as the released guide's own fill.sh prints them over the translation c7e69e9ebfede2b5… (all of the seat's roots in one cut). By AI agents, Wed Nov 11 2026. No macro, syntax, notation, axiom, sorry.
-/
import Derived.Test.YtmelblnfjcbmjaaDoorChecked
import GoSem.Claim
import GoSem.ClaimJoined
import GoSem.ClaimMapViews
import Derived.JoinedTies
import Derived.KernelRfl
namespace Go.Proofs.YtmelblnfjcbmjaaDoor
/- THE CELL 'sum', in the pinned program and in every row, IS THE sha256 OF THE DUMP (.gsa) THAT YtmelblnfjcbmjaaDoorProg.lean LOADS. Nothing in Lean hashes anything: it is a label: what it is worth is what the hold of that sum in a sandbox is worth. -/
noncomputable def Tryd.pinned : Pinned := { name := "ytmelblnfjcbmjaadoor", sum := "c7e69e9ebfede2b5b91605765a805c33e53249af4db1655dcaae5a1ee1c16672", checked := Tryd.checked }
namespace Rows
def none {H : Type} : Left H := { results := [], args := [] }

/- WHAT THE LISTED PACKAGE-LEVEL VARIABLES READ AS WHEN THE CALL BEGINS. Each datum BY PROGRAM (the guide's laid-datum.mjs) off the statement by which the dump's own 'gosem.cut.vars' lays the variable. In a bare row this is a premise. The card (YtmelblnfjcbmjaaDoorCards.lean) ties it to the program's text. -/
def laid_casuist_wide_wordTen {H : Type} : DataW H := .agg [.lit (.int .u64 1), .lit (.int .u64 10), .lit (.int .u64 100), .lit (.int .u64 1000), .lit (.int .u64 10000), .lit (.int .u64 100000), .lit (.int .u64 1000000), .lit (.int .u64 10000000), .lit (.int .u64 100000000), .lit (.int .u64 1000000000), .lit (.int .u64 10000000000), .lit (.int .u64 100000000000), .lit (.int .u64 1000000000000), .lit (.int .u64 10000000000000), .lit (.int .u64 100000000000000), .lit (.int .u64 1000000000000000), .lit (.int .u64 10000000000000000), .lit (.int .u64 100000000000000000), .lit (.int .u64 1000000000000000000), .lit (.int .u64 10000000000000000000)]
def laid_math_bits_deBruijn32tab {H : Type} : DataW H := .agg [.lit (.int .u8 0), .lit (.int .u8 1), .lit (.int .u8 28), .lit (.int .u8 2), .lit (.int .u8 29), .lit (.int .u8 14), .lit (.int .u8 24), .lit (.int .u8 3), .lit (.int .u8 30), .lit (.int .u8 22), .lit (.int .u8 20), .lit (.int .u8 15), .lit (.int .u8 25), .lit (.int .u8 17), .lit (.int .u8 4), .lit (.int .u8 8), .lit (.int .u8 31), .lit (.int .u8 27), .lit (.int .u8 13), .lit (.int .u8 23), .lit (.int .u8 21), .lit (.int .u8 19), .lit (.int .u8 16), .lit (.int .u8 7), .lit (.int .u8 26), .lit (.int .u8 12), .lit (.int .u8 18), .lit (.int .u8 6), .lit (.int .u8 11), .lit (.int .u8 5), .lit (.int .u8 10), .lit (.int .u8 9)]
def laid_math_bits_deBruijn64tab {H : Type} : DataW H := .agg [.lit (.int .u8 0), .lit (.int .u8 1), .lit (.int .u8 56), .lit (.int .u8 2), .lit (.int .u8 57), .lit (.int .u8 49), .lit (.int .u8 28), .lit (.int .u8 3), .lit (.int .u8 61), .lit (.int .u8 58), .lit (.int .u8 42), .lit (.int .u8 50), .lit (.int .u8 38), .lit (.int .u8 29), .lit (.int .u8 17), .lit (.int .u8 4), .lit (.int .u8 62), .lit (.int .u8 47), .lit (.int .u8 59), .lit (.int .u8 36), .lit (.int .u8 45), .lit (.int .u8 43), .lit (.int .u8 51), .lit (.int .u8 22), .lit (.int .u8 53), .lit (.int .u8 39), .lit (.int .u8 33), .lit (.int .u8 30), .lit (.int .u8 24), .lit (.int .u8 18), .lit (.int .u8 12), .lit (.int .u8 5), .lit (.int .u8 63), .lit (.int .u8 55), .lit (.int .u8 48), .lit (.int .u8 27), .lit (.int .u8 60), .lit (.int .u8 41), .lit (.int .u8 37), .lit (.int .u8 16), .lit (.int .u8 46), .lit (.int .u8 35), .lit (.int .u8 44), .lit (.int .u8 21), .lit (.int .u8 52), .lit (.int .u8 32), .lit (.int .u8 23), .lit (.int .u8 11), .lit (.int .u8 54), .lit (.int .u8 26), .lit (.int .u8 40), .lit (.int .u8 15), .lit (.int .u8 34), .lit (.int .u8 20), .lit (.int .u8 31), .lit (.int .u8 10), .lit (.int .u8 25), .lit (.int .u8 14), .lit (.int .u8 19), .lit (.int .u8 9), .lit (.int .u8 13), .lit (.int .u8 8), .lit (.int .u8 7), .lit (.int .u8 6)]
def laid_internal_strconv_uint64pow10 {H : Type} : DataW H := .agg [.lit (.int .u64 1), .lit (.int .u64 10), .lit (.int .u64 100), .lit (.int .u64 1000), .lit (.int .u64 10000), .lit (.int .u64 100000), .lit (.int .u64 1000000), .lit (.int .u64 10000000), .lit (.int .u64 100000000), .lit (.int .u64 1000000000), .lit (.int .u64 10000000000), .lit (.int .u64 100000000000), .lit (.int .u64 1000000000000), .lit (.int .u64 10000000000000), .lit (.int .u64 100000000000000), .lit (.int .u64 1000000000000000), .lit (.int .u64 10000000000000000), .lit (.int .u64 100000000000000000), .lit (.int .u64 1000000000000000000), .lit (.int .u64 10000000000000000000)]

/-- 'casuistlaw03.QuotRoots': WHATEVER THE INPUT: true; the input reads as it did. -/
def quotRootsSpec : ChangeSpec := { name := "quotRoots", fn := fun _ => fun
  | [d] => { results := [.lit (.bool true)], args := [d] }
  | _ => none }
def quotRootsRow : OpenClaim := { program := "ytmelblnfjcbmjaadoor", sum := "c7e69e9ebfede2b5b91605765a805c33e53249af4db1655dcaae5a1ee1c16672", func := "casuist/casuistlaw03.QuotRoots", spec := "quotRoots", inPlace := ["math/bits.Add64", "math/bits.Sub64"], named := ["casuist/wide.wordTen", "math/bits.divideError", "math/bits.overflowError"], apart := false, laid := [("casuist/wide.wordTen", laid_casuist_wide_wordTen)] }
def QuotRootsSaid : Prop := quotRootsRow.holds Tryd.pinned (OpenSpec.ofChange quotRootsSpec)

/-- ITS FALSE NEIGHBOUR: 'it returns false'. Refute it at one input. -/
def quotRootsWrong : ChangeSpec := { name := "quotRoots", fn := fun _ => fun
  | [d] => { results := [.lit (.bool false)], args := [d] }
  | _ => none }
def QuotRootsWrongFalsely : Prop := quotRootsRow.holds Tryd.pinned (OpenSpec.ofChange quotRootsWrong)

/-- 'casuistlaw04.RoundScales': WHATEVER THE INPUT: true; the input reads as it did. -/
def roundScalesSpec : ChangeSpec := { name := "roundScales", fn := fun _ => fun
  | [d1, d2, d3] => { results := [.lit (.bool true)], args := [d1, d2, d3] }
  | _ => none }
def roundScalesRow : OpenClaim := { program := "ytmelblnfjcbmjaadoor", sum := "c7e69e9ebfede2b5b91605765a805c33e53249af4db1655dcaae5a1ee1c16672", func := "casuist/casuistlaw04.RoundScales", spec := "roundScales", inPlace := ["math/bits.Add64", "math/bits.Sub64"], recurses := true, named := ["casuist/wide.wordTen", "math/bits.divideError", "math/bits.overflowError"], apart := false, laid := [("casuist/wide.wordTen", laid_casuist_wide_wordTen)] }
def RoundScalesSaid : Prop := roundScalesRow.holds Tryd.pinned (OpenSpec.ofChange roundScalesSpec)

/-- ITS FALSE NEIGHBOUR: 'it returns false'. Refute it at one input. -/
def roundScalesWrong : ChangeSpec := { name := "roundScales", fn := fun _ => fun
  | [d1, d2, d3] => { results := [.lit (.bool false)], args := [d1, d2, d3] }
  | _ => none }
def RoundScalesWrongFalsely : Prop := roundScalesRow.holds Tryd.pinned (OpenSpec.ofChange roundScalesWrong)

/-- 'casuistlaw04.RoundWholes': WHATEVER THE INPUT: true; the input reads as it did. -/
def roundWholesSpec : ChangeSpec := { name := "roundWholes", fn := fun _ => fun
  | [d1, d2] => { results := [.lit (.bool true)], args := [d1, d2] }
  | _ => none }
def roundWholesRow : OpenClaim := { program := "ytmelblnfjcbmjaadoor", sum := "c7e69e9ebfede2b5b91605765a805c33e53249af4db1655dcaae5a1ee1c16672", func := "casuist/casuistlaw04.RoundWholes", spec := "roundWholes", inPlace := ["math/bits.Add64", "math/bits.Sub64"], recurses := true, named := ["casuist/wide.wordTen", "math/bits.divideError", "math/bits.overflowError"], apart := false, laid := [("casuist/wide.wordTen", laid_casuist_wide_wordTen)] }
def RoundWholesSaid : Prop := roundWholesRow.holds Tryd.pinned (OpenSpec.ofChange roundWholesSpec)

/-- ITS FALSE NEIGHBOUR: 'it returns false'. Refute it at one input. -/
def roundWholesWrong : ChangeSpec := { name := "roundWholes", fn := fun _ => fun
  | [d1, d2] => { results := [.lit (.bool false)], args := [d1, d2] }
  | _ => none }
def RoundWholesWrongFalsely : Prop := roundWholesRow.holds Tryd.pinned (OpenSpec.ofChange roundWholesWrong)

/-- 'casuistlaw05.NumeralTells': WHATEVER THE INPUT: true; the input reads as it did. -/
def numeralTellsSpec : ChangeSpec := { name := "numeralTells", fn := fun _ => fun
  | [d] => { results := [.lit (.bool true)], args := [d] }
  | _ => none }
def numeralTellsRow : OpenClaim := { program := "ytmelblnfjcbmjaadoor", sum := "c7e69e9ebfede2b5b91605765a805c33e53249af4db1655dcaae5a1ee1c16672", func := "casuist/casuistlaw05.NumeralTells", spec := "numeralTells", inPlace := ["math/bits.Add64", "internal/abi.NoEscape", "internal/bytealg.MakeNoZero", "math/bits.Sub64"], recurses := true, named := ["casuist/wide.wordTen", "math/bits.divideError", "math/bits.overflowError", "internal/strconv.uint64pow10", "math/bits.deBruijn32tab", "math/bits.deBruijn64tab"], apart := false, laid := [("math/bits.deBruijn32tab", laid_math_bits_deBruijn32tab), ("math/bits.deBruijn64tab", laid_math_bits_deBruijn64tab), ("internal/strconv.uint64pow10", laid_internal_strconv_uint64pow10), ("casuist/wide.wordTen", laid_casuist_wide_wordTen)] }
def NumeralTellsSaid : Prop := numeralTellsRow.holds Tryd.pinned (OpenSpec.ofChange numeralTellsSpec)

/-- ITS FALSE NEIGHBOUR: 'it returns false'. Refute it at one input. -/
def numeralTellsWrong : ChangeSpec := { name := "numeralTells", fn := fun _ => fun
  | [d] => { results := [.lit (.bool false)], args := [d] }
  | _ => none }
def NumeralTellsWrongFalsely : Prop := numeralTellsRow.holds Tryd.pinned (OpenSpec.ofChange numeralTellsWrong)

/-- 'casuistlaw05.NumeralOne': WHATEVER THE INPUT: true; the input reads as it did. -/
def numeralOneSpec : ChangeSpec := { name := "numeralOne", fn := fun _ => fun
  | [d1, d2] => { results := [.lit (.bool true)], args := [d1, d2] }
  | _ => none }
def numeralOneRow : OpenClaim := { program := "ytmelblnfjcbmjaadoor", sum := "c7e69e9ebfede2b5b91605765a805c33e53249af4db1655dcaae5a1ee1c16672", func := "casuist/casuistlaw05.NumeralOne", spec := "numeralOne", inPlace := ["math/bits.Add64", "internal/abi.NoEscape", "internal/bytealg.MakeNoZero", "math/bits.Sub64"], recurses := true, named := ["casuist/wide.wordTen", "math/bits.divideError", "math/bits.overflowError", "internal/strconv.uint64pow10", "math/bits.deBruijn32tab", "math/bits.deBruijn64tab"], apart := false, laid := [("math/bits.deBruijn32tab", laid_math_bits_deBruijn32tab), ("math/bits.deBruijn64tab", laid_math_bits_deBruijn64tab), ("internal/strconv.uint64pow10", laid_internal_strconv_uint64pow10), ("casuist/wide.wordTen", laid_casuist_wide_wordTen)] }
def NumeralOneSaid : Prop := numeralOneRow.holds Tryd.pinned (OpenSpec.ofChange numeralOneSpec)

/-- ITS FALSE NEIGHBOUR: 'it returns false'. Refute it at one input. -/
def numeralOneWrong : ChangeSpec := { name := "numeralOne", fn := fun _ => fun
  | [d1, d2] => { results := [.lit (.bool false)], args := [d1, d2] }
  | _ => none }
def NumeralOneWrongFalsely : Prop := numeralOneRow.holds Tryd.pinned (OpenSpec.ofChange numeralOneWrong)

/-- 'casuistlaw05.NumeralBack': WHATEVER THE INPUT: true; the input reads as it did. -/
def numeralBackSpec : ChangeSpec := { name := "numeralBack", fn := fun _ => fun
  | [d] => { results := [.lit (.bool true)], args := [d] }
  | _ => none }
def numeralBackRow : OpenClaim := { program := "ytmelblnfjcbmjaadoor", sum := "c7e69e9ebfede2b5b91605765a805c33e53249af4db1655dcaae5a1ee1c16672", func := "casuist/casuistlaw05.NumeralBack", spec := "numeralBack", inPlace := ["math/bits.Add64", "internal/abi.NoEscape", "internal/bytealg.MakeNoZero"], recurses := true, named := ["casuist/wide.wordTen", "math/bits.divideError", "math/bits.overflowError", "internal/strconv.uint64pow10", "math/bits.deBruijn32tab", "math/bits.deBruijn64tab"], apart := false, laid := [("math/bits.deBruijn32tab", laid_math_bits_deBruijn32tab), ("math/bits.deBruijn64tab", laid_math_bits_deBruijn64tab), ("internal/strconv.uint64pow10", laid_internal_strconv_uint64pow10), ("casuist/wide.wordTen", laid_casuist_wide_wordTen)] }
def NumeralBackSaid : Prop := numeralBackRow.holds Tryd.pinned (OpenSpec.ofChange numeralBackSpec)

/-- ITS FALSE NEIGHBOUR: 'it returns false'. Refute it at one input. -/
def numeralBackWrong : ChangeSpec := { name := "numeralBack", fn := fun _ => fun
  | [d] => { results := [.lit (.bool false)], args := [d] }
  | _ => none }
def NumeralBackWrongFalsely : Prop := numeralBackRow.holds Tryd.pinned (OpenSpec.ofChange numeralBackWrong)

/-- 'casuistlaw05.NumeralShifts': WHATEVER THE INPUT: true; the input reads as it did. -/
def numeralShiftsSpec : ChangeSpec := { name := "numeralShifts", fn := fun _ => fun
  | [d] => { results := [.lit (.bool true)], args := [d] }
  | _ => none }
def numeralShiftsRow : OpenClaim := { program := "ytmelblnfjcbmjaadoor", sum := "c7e69e9ebfede2b5b91605765a805c33e53249af4db1655dcaae5a1ee1c16672", func := "casuist/casuistlaw05.NumeralShifts", spec := "numeralShifts", inPlace := ["math/bits.Add64", "internal/abi.NoEscape", "internal/bytealg.MakeNoZero"], recurses := true, named := ["casuist/wide.wordTen", "math/bits.divideError", "math/bits.overflowError", "internal/strconv.uint64pow10", "math/bits.deBruijn32tab", "math/bits.deBruijn64tab"], apart := false, laid := [("math/bits.deBruijn32tab", laid_math_bits_deBruijn32tab), ("math/bits.deBruijn64tab", laid_math_bits_deBruijn64tab), ("internal/strconv.uint64pow10", laid_internal_strconv_uint64pow10), ("casuist/wide.wordTen", laid_casuist_wide_wordTen)] }
def NumeralShiftsSaid : Prop := numeralShiftsRow.holds Tryd.pinned (OpenSpec.ofChange numeralShiftsSpec)

/-- ITS FALSE NEIGHBOUR: 'it returns false'. Refute it at one input. -/
def numeralShiftsWrong : ChangeSpec := { name := "numeralShifts", fn := fun _ => fun
  | [d] => { results := [.lit (.bool false)], args := [d] }
  | _ => none }
def NumeralShiftsWrongFalsely : Prop := numeralShiftsRow.holds Tryd.pinned (OpenSpec.ofChange numeralShiftsWrong)

/- THE SECOND FORM. 'bulk': how many values and letters a reading holds, each counted each time it is reached (what is shared counts as often as it is met; a slice's spare places count too). A statement '..UptoSaid' is the law's where the arguments, and the package variables that the reading takes, are together of bulk at most 1048576: NARROWER than '..Said'. Prove '..Said' where nothing that the law and all that it calls make is longer than what came in: it says more and counts as full. Else prove '..UptoSaid'. A law counts once. -/
mutual
def uptoBulk {H : Type} : DataW H → Nat
  | .lit (.string bytes) => bytes.length + 1
  | .lit _ => 1
  | .nil => 1
  | .ptr d => uptoBulk d + 1
  | .slice elems spare => uptoBulkAll elems + uptoBulkAll spare + 1
  | .agg parts => uptoBulkAll parts + 1
  | .iface _ d => uptoBulk d + 1
  | .map entries => uptoBulkEntries entries + 1
  | .held _ => 1
def uptoBulkAll {H : Type} : List (DataW H) → Nat
  | [] => 0
  | d :: r => uptoBulk d + uptoBulkAll r
def uptoBulkEntries {H : Type} : List (Lit × DataW H) → Nat
  | [] => 0
  | x :: r => uptoBulkEntry x + uptoBulkEntries r
def uptoBulkEntry {H : Type} : Lit × DataW H → Nat
  | (.string bytes, d) => bytes.length + uptoBulk d + 1
  | (_, d) => uptoBulk d + 1
 end
def uptoSmall : (H : Type) → List (DataW H) → Bool := fun _ ds => decide (uptoBulkAll ds ≤ 1048576)
def OpenSpec.upto (s : _root_.Go.ChangeSpec) : _root_.Go.OpenSpec := { _root_.Go.OpenSpec.ofChange s with cond := some uptoSmall }

/-- 'casuistlaw03.QuotRoots', WHERE WHAT IT READS IS OF BULK AT MOST 1048576: true; the input reads as it did. -/
def quotRootsUptoRow : OpenClaim := { program := "ytmelblnfjcbmjaadoor", sum := "c7e69e9ebfede2b5b91605765a805c33e53249af4db1655dcaae5a1ee1c16672", func := "casuist/casuistlaw03.QuotRoots", spec := "quotRoots", inPlace := ["math/bits.Add64", "math/bits.Sub64"], named := ["casuist/wide.wordTen", "math/bits.divideError", "math/bits.overflowError"], apart := false, laid := [("casuist/wide.wordTen", laid_casuist_wide_wordTen)], narrowed := true }
def QuotRootsUptoSaid : Prop := quotRootsUptoRow.holds Tryd.pinned (OpenSpec.upto quotRootsSpec)

/-- 'casuistlaw04.RoundScales', WHERE WHAT IT READS IS OF BULK AT MOST 1048576: true; the input reads as it did. -/
def roundScalesUptoRow : OpenClaim := { program := "ytmelblnfjcbmjaadoor", sum := "c7e69e9ebfede2b5b91605765a805c33e53249af4db1655dcaae5a1ee1c16672", func := "casuist/casuistlaw04.RoundScales", spec := "roundScales", inPlace := ["math/bits.Add64", "math/bits.Sub64"], recurses := true, named := ["casuist/wide.wordTen", "math/bits.divideError", "math/bits.overflowError"], apart := false, laid := [("casuist/wide.wordTen", laid_casuist_wide_wordTen)], narrowed := true }
def RoundScalesUptoSaid : Prop := roundScalesUptoRow.holds Tryd.pinned (OpenSpec.upto roundScalesSpec)

/-- 'casuistlaw04.RoundWholes', WHERE WHAT IT READS IS OF BULK AT MOST 1048576: true; the input reads as it did. -/
def roundWholesUptoRow : OpenClaim := { program := "ytmelblnfjcbmjaadoor", sum := "c7e69e9ebfede2b5b91605765a805c33e53249af4db1655dcaae5a1ee1c16672", func := "casuist/casuistlaw04.RoundWholes", spec := "roundWholes", inPlace := ["math/bits.Add64", "math/bits.Sub64"], recurses := true, named := ["casuist/wide.wordTen", "math/bits.divideError", "math/bits.overflowError"], apart := false, laid := [("casuist/wide.wordTen", laid_casuist_wide_wordTen)], narrowed := true }
def RoundWholesUptoSaid : Prop := roundWholesUptoRow.holds Tryd.pinned (OpenSpec.upto roundWholesSpec)

/-- 'casuistlaw05.NumeralTells', WHERE WHAT IT READS IS OF BULK AT MOST 1048576: true; the input reads as it did. -/
def numeralTellsUptoRow : OpenClaim := { program := "ytmelblnfjcbmjaadoor", sum := "c7e69e9ebfede2b5b91605765a805c33e53249af4db1655dcaae5a1ee1c16672", func := "casuist/casuistlaw05.NumeralTells", spec := "numeralTells", inPlace := ["math/bits.Add64", "internal/abi.NoEscape", "internal/bytealg.MakeNoZero", "math/bits.Sub64"], recurses := true, named := ["casuist/wide.wordTen", "math/bits.divideError", "math/bits.overflowError", "internal/strconv.uint64pow10", "math/bits.deBruijn32tab", "math/bits.deBruijn64tab"], apart := false, laid := [("math/bits.deBruijn32tab", laid_math_bits_deBruijn32tab), ("math/bits.deBruijn64tab", laid_math_bits_deBruijn64tab), ("internal/strconv.uint64pow10", laid_internal_strconv_uint64pow10), ("casuist/wide.wordTen", laid_casuist_wide_wordTen)], narrowed := true }
def NumeralTellsUptoSaid : Prop := numeralTellsUptoRow.holds Tryd.pinned (OpenSpec.upto numeralTellsSpec)

/-- 'casuistlaw05.NumeralOne', WHERE WHAT IT READS IS OF BULK AT MOST 1048576: true; the input reads as it did. -/
def numeralOneUptoRow : OpenClaim := { program := "ytmelblnfjcbmjaadoor", sum := "c7e69e9ebfede2b5b91605765a805c33e53249af4db1655dcaae5a1ee1c16672", func := "casuist/casuistlaw05.NumeralOne", spec := "numeralOne", inPlace := ["math/bits.Add64", "internal/abi.NoEscape", "internal/bytealg.MakeNoZero", "math/bits.Sub64"], recurses := true, named := ["casuist/wide.wordTen", "math/bits.divideError", "math/bits.overflowError", "internal/strconv.uint64pow10", "math/bits.deBruijn32tab", "math/bits.deBruijn64tab"], apart := false, laid := [("math/bits.deBruijn32tab", laid_math_bits_deBruijn32tab), ("math/bits.deBruijn64tab", laid_math_bits_deBruijn64tab), ("internal/strconv.uint64pow10", laid_internal_strconv_uint64pow10), ("casuist/wide.wordTen", laid_casuist_wide_wordTen)], narrowed := true }
def NumeralOneUptoSaid : Prop := numeralOneUptoRow.holds Tryd.pinned (OpenSpec.upto numeralOneSpec)

/-- 'casuistlaw05.NumeralBack', WHERE WHAT IT READS IS OF BULK AT MOST 1048576: true; the input reads as it did. -/
def numeralBackUptoRow : OpenClaim := { program := "ytmelblnfjcbmjaadoor", sum := "c7e69e9ebfede2b5b91605765a805c33e53249af4db1655dcaae5a1ee1c16672", func := "casuist/casuistlaw05.NumeralBack", spec := "numeralBack", inPlace := ["math/bits.Add64", "internal/abi.NoEscape", "internal/bytealg.MakeNoZero"], recurses := true, named := ["casuist/wide.wordTen", "math/bits.divideError", "math/bits.overflowError", "internal/strconv.uint64pow10", "math/bits.deBruijn32tab", "math/bits.deBruijn64tab"], apart := false, laid := [("math/bits.deBruijn32tab", laid_math_bits_deBruijn32tab), ("math/bits.deBruijn64tab", laid_math_bits_deBruijn64tab), ("internal/strconv.uint64pow10", laid_internal_strconv_uint64pow10), ("casuist/wide.wordTen", laid_casuist_wide_wordTen)], narrowed := true }
def NumeralBackUptoSaid : Prop := numeralBackUptoRow.holds Tryd.pinned (OpenSpec.upto numeralBackSpec)

/-- 'casuistlaw05.NumeralShifts', WHERE WHAT IT READS IS OF BULK AT MOST 1048576: true; the input reads as it did. -/
def numeralShiftsUptoRow : OpenClaim := { program := "ytmelblnfjcbmjaadoor", sum := "c7e69e9ebfede2b5b91605765a805c33e53249af4db1655dcaae5a1ee1c16672", func := "casuist/casuistlaw05.NumeralShifts", spec := "numeralShifts", inPlace := ["math/bits.Add64", "internal/abi.NoEscape", "internal/bytealg.MakeNoZero"], recurses := true, named := ["casuist/wide.wordTen", "math/bits.divideError", "math/bits.overflowError", "internal/strconv.uint64pow10", "math/bits.deBruijn32tab", "math/bits.deBruijn64tab"], apart := false, laid := [("math/bits.deBruijn32tab", laid_math_bits_deBruijn32tab), ("math/bits.deBruijn64tab", laid_math_bits_deBruijn64tab), ("internal/strconv.uint64pow10", laid_internal_strconv_uint64pow10), ("casuist/wide.wordTen", laid_casuist_wide_wordTen)], narrowed := true }
def NumeralShiftsUptoSaid : Prop := numeralShiftsUptoRow.holds Tryd.pinned (OpenSpec.upto numeralShiftsSpec)

end Rows
end Go.Proofs.YtmelblnfjcbmjaaDoor
