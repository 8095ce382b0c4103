/-
  NARROWER THAN 'FOR EVERY INPUT', by the rows' own cells (each row's printed sentence says how): QuotRoots: laid · QuotBack: laid · QuotSquares: laid · QuotOnes: laid · RoundNear: laid · RoundModes: laid · RoundModulo: laid · RoundParity: laid · NumeralTells: laid · NumeralOne: laid · NumeralBack: laid · NumeralShifts: laid.
  DERIVED. THE GIVEN ROWS OF THIS SEAT. 12 by the template 'for every input the law returns true; each argument reads behind the call as it read before'; 0 by the template 'total and deterministic' (their statements: YtoobmopmmoficaaDoorTotals.lean).
  GIVEN WITH THE SEED: the statements are not yours to turn. If you find one false, say at which input.
  Laid BY PROGRAM, IN A SANDBOX (cutbox-rows.mjs): the forced cells as the released guide's own fill.sh prints them over the translation 3ff05f5153a7ba8d… (all of the seat's roots in one cut). By AI agents, Wed Nov 11 2026. No macro, syntax, notation, axiom, sorry.
-/
import Derived.Test.YtoobmopmmoficaaDoorChecked
import GoSem.Claim
import GoSem.ClaimJoined
import GoSem.ClaimMapViews
import Derived.JoinedTies
import Derived.KernelRfl
namespace Go.Proofs.YtoobmopmmoficaaDoor
/- THE CELL 'sum', in the pinned program and in every row, IS THE sha256 OF THE DUMP (.gsa) THAT YtoobmopmmoficaaDoorProg.lean LOADS. Nothing in Lean hashes anything: it is a label: what it is worth is what the hold of that sum in a sandbox is worth. -/
noncomputable def Tryd.pinned : Pinned := { name := "ytoobmopmmoficaadoor", sum := "3ff05f5153a7ba8d4709fc6287eb93cced9203462ffb9f279f224b1a82c8b251", checked := Tryd.checked }
namespace Rows
def none {H : Type} : Left H := { results := [], args := [] }

/- WHAT THE LISTED PACKAGE-LEVEL VARIABLES READ AS WHEN THE CALL BEGINS. Each datum BY PROGRAM (the guide's laid-datum.mjs) off the statement by which the dump's own 'gosem.cut.vars' lays the variable. In a bare row this is a premise. The card (YtoobmopmmoficaaDoorCards.lean) ties it to the program's text. -/
def laid_casuist_wide_wordTen {H : Type} : DataW H := .agg [.lit (.int .u64 1), .lit (.int .u64 10), .lit (.int .u64 100), .lit (.int .u64 1000), .lit (.int .u64 10000), .lit (.int .u64 100000), .lit (.int .u64 1000000), .lit (.int .u64 10000000), .lit (.int .u64 100000000), .lit (.int .u64 1000000000), .lit (.int .u64 10000000000), .lit (.int .u64 100000000000), .lit (.int .u64 1000000000000), .lit (.int .u64 10000000000000), .lit (.int .u64 100000000000000), .lit (.int .u64 1000000000000000), .lit (.int .u64 10000000000000000), .lit (.int .u64 100000000000000000), .lit (.int .u64 1000000000000000000), .lit (.int .u64 10000000000000000000)]
def laid_math_bits_deBruijn32tab {H : Type} : DataW H := .agg [.lit (.int .u8 0), .lit (.int .u8 1), .lit (.int .u8 28), .lit (.int .u8 2), .lit (.int .u8 29), .lit (.int .u8 14), .lit (.int .u8 24), .lit (.int .u8 3), .lit (.int .u8 30), .lit (.int .u8 22), .lit (.int .u8 20), .lit (.int .u8 15), .lit (.int .u8 25), .lit (.int .u8 17), .lit (.int .u8 4), .lit (.int .u8 8), .lit (.int .u8 31), .lit (.int .u8 27), .lit (.int .u8 13), .lit (.int .u8 23), .lit (.int .u8 21), .lit (.int .u8 19), .lit (.int .u8 16), .lit (.int .u8 7), .lit (.int .u8 26), .lit (.int .u8 12), .lit (.int .u8 18), .lit (.int .u8 6), .lit (.int .u8 11), .lit (.int .u8 5), .lit (.int .u8 10), .lit (.int .u8 9)]
def laid_math_bits_deBruijn64tab {H : Type} : DataW H := .agg [.lit (.int .u8 0), .lit (.int .u8 1), .lit (.int .u8 56), .lit (.int .u8 2), .lit (.int .u8 57), .lit (.int .u8 49), .lit (.int .u8 28), .lit (.int .u8 3), .lit (.int .u8 61), .lit (.int .u8 58), .lit (.int .u8 42), .lit (.int .u8 50), .lit (.int .u8 38), .lit (.int .u8 29), .lit (.int .u8 17), .lit (.int .u8 4), .lit (.int .u8 62), .lit (.int .u8 47), .lit (.int .u8 59), .lit (.int .u8 36), .lit (.int .u8 45), .lit (.int .u8 43), .lit (.int .u8 51), .lit (.int .u8 22), .lit (.int .u8 53), .lit (.int .u8 39), .lit (.int .u8 33), .lit (.int .u8 30), .lit (.int .u8 24), .lit (.int .u8 18), .lit (.int .u8 12), .lit (.int .u8 5), .lit (.int .u8 63), .lit (.int .u8 55), .lit (.int .u8 48), .lit (.int .u8 27), .lit (.int .u8 60), .lit (.int .u8 41), .lit (.int .u8 37), .lit (.int .u8 16), .lit (.int .u8 46), .lit (.int .u8 35), .lit (.int .u8 44), .lit (.int .u8 21), .lit (.int .u8 52), .lit (.int .u8 32), .lit (.int .u8 23), .lit (.int .u8 11), .lit (.int .u8 54), .lit (.int .u8 26), .lit (.int .u8 40), .lit (.int .u8 15), .lit (.int .u8 34), .lit (.int .u8 20), .lit (.int .u8 31), .lit (.int .u8 10), .lit (.int .u8 25), .lit (.int .u8 14), .lit (.int .u8 19), .lit (.int .u8 9), .lit (.int .u8 13), .lit (.int .u8 8), .lit (.int .u8 7), .lit (.int .u8 6)]
def laid_internal_strconv_uint64pow10 {H : Type} : DataW H := .agg [.lit (.int .u64 1), .lit (.int .u64 10), .lit (.int .u64 100), .lit (.int .u64 1000), .lit (.int .u64 10000), .lit (.int .u64 100000), .lit (.int .u64 1000000), .lit (.int .u64 10000000), .lit (.int .u64 100000000), .lit (.int .u64 1000000000), .lit (.int .u64 10000000000), .lit (.int .u64 100000000000), .lit (.int .u64 1000000000000), .lit (.int .u64 10000000000000), .lit (.int .u64 100000000000000), .lit (.int .u64 1000000000000000), .lit (.int .u64 10000000000000000), .lit (.int .u64 100000000000000000), .lit (.int .u64 1000000000000000000), .lit (.int .u64 10000000000000000000)]

/-- 'casuistlaw03.QuotRoots': WHATEVER THE INPUT: true; the input reads as it did. -/
def quotRootsSpec : ChangeSpec := { name := "quotRoots", fn := fun _ => fun
  | [d] => { results := [.lit (.bool true)], args := [d] }
  | _ => none }
def quotRootsRow : OpenClaim := { program := "ytoobmopmmoficaadoor", sum := "3ff05f5153a7ba8d4709fc6287eb93cced9203462ffb9f279f224b1a82c8b251", func := "casuist/casuistlaw03.QuotRoots", spec := "quotRoots", inPlace := ["math/bits.Add64", "math/bits.Sub64"], named := ["casuist/wide.wordTen", "math/bits.divideError", "math/bits.overflowError"], apart := false, laid := [("casuist/wide.wordTen", laid_casuist_wide_wordTen)] }
def QuotRootsSaid : Prop := quotRootsRow.holds Tryd.pinned (OpenSpec.ofChange quotRootsSpec)

/-- ITS FALSE NEIGHBOUR: 'it returns false'. Refute it at one input. -/
def quotRootsWrong : ChangeSpec := { name := "quotRoots", fn := fun _ => fun
  | [d] => { results := [.lit (.bool false)], args := [d] }
  | _ => none }
def QuotRootsWrongFalsely : Prop := quotRootsRow.holds Tryd.pinned (OpenSpec.ofChange quotRootsWrong)

/-- 'casuistlaw03.QuotBack': WHATEVER THE INPUT: true; the input reads as it did. -/
def quotBackSpec : ChangeSpec := { name := "quotBack", fn := fun _ => fun
  | [d1, d2, d3, d4, d5] => { results := [.lit (.bool true)], args := [d1, d2, d3, d4, d5] }
  | _ => none }
def quotBackRow : OpenClaim := { program := "ytoobmopmmoficaadoor", sum := "3ff05f5153a7ba8d4709fc6287eb93cced9203462ffb9f279f224b1a82c8b251", func := "casuist/casuistlaw03.QuotBack", spec := "quotBack", inPlace := ["math/bits.Add64", "math/bits.Sub64"], named := ["casuist/wide.wordTen", "math/bits.divideError", "math/bits.overflowError"], apart := false, laid := [("casuist/wide.wordTen", laid_casuist_wide_wordTen)] }
def QuotBackSaid : Prop := quotBackRow.holds Tryd.pinned (OpenSpec.ofChange quotBackSpec)

/-- ITS FALSE NEIGHBOUR: 'it returns false'. Refute it at one input. -/
def quotBackWrong : ChangeSpec := { name := "quotBack", fn := fun _ => fun
  | [d1, d2, d3, d4, d5] => { results := [.lit (.bool false)], args := [d1, d2, d3, d4, d5] }
  | _ => none }
def QuotBackWrongFalsely : Prop := quotBackRow.holds Tryd.pinned (OpenSpec.ofChange quotBackWrong)

/-- 'casuistlaw03.QuotSquares': WHATEVER THE INPUT: true; the input reads as it did. -/
def quotSquaresSpec : ChangeSpec := { name := "quotSquares", fn := fun _ => fun
  | [d1, d2, d3] => { results := [.lit (.bool true)], args := [d1, d2, d3] }
  | _ => none }
def quotSquaresRow : OpenClaim := { program := "ytoobmopmmoficaadoor", sum := "3ff05f5153a7ba8d4709fc6287eb93cced9203462ffb9f279f224b1a82c8b251", func := "casuist/casuistlaw03.QuotSquares", spec := "quotSquares", inPlace := ["math/bits.Add64", "math/bits.Sub64"], named := ["casuist/wide.wordTen", "math/bits.divideError", "math/bits.overflowError"], apart := false, laid := [("casuist/wide.wordTen", laid_casuist_wide_wordTen)] }
def QuotSquaresSaid : Prop := quotSquaresRow.holds Tryd.pinned (OpenSpec.ofChange quotSquaresSpec)

/-- ITS FALSE NEIGHBOUR: 'it returns false'. Refute it at one input. -/
def quotSquaresWrong : ChangeSpec := { name := "quotSquares", fn := fun _ => fun
  | [d1, d2, d3] => { results := [.lit (.bool false)], args := [d1, d2, d3] }
  | _ => none }
def QuotSquaresWrongFalsely : Prop := quotSquaresRow.holds Tryd.pinned (OpenSpec.ofChange quotSquaresWrong)

/-- 'casuistlaw03.QuotOnes': WHATEVER THE INPUT: true; the input reads as it did. -/
def quotOnesSpec : ChangeSpec := { name := "quotOnes", fn := fun _ => fun
  | [d] => { results := [.lit (.bool true)], args := [d] }
  | _ => none }
def quotOnesRow : OpenClaim := { program := "ytoobmopmmoficaadoor", sum := "3ff05f5153a7ba8d4709fc6287eb93cced9203462ffb9f279f224b1a82c8b251", func := "casuist/casuistlaw03.QuotOnes", spec := "quotOnes", inPlace := ["math/bits.Add64", "math/bits.Sub64"], named := ["casuist/wide.wordTen", "math/bits.divideError", "math/bits.overflowError"], apart := false, laid := [("casuist/wide.wordTen", laid_casuist_wide_wordTen)] }
def QuotOnesSaid : Prop := quotOnesRow.holds Tryd.pinned (OpenSpec.ofChange quotOnesSpec)

/-- ITS FALSE NEIGHBOUR: 'it returns false'. Refute it at one input. -/
def quotOnesWrong : ChangeSpec := { name := "quotOnes", fn := fun _ => fun
  | [d] => { results := [.lit (.bool false)], args := [d] }
  | _ => none }
def QuotOnesWrongFalsely : Prop := quotOnesRow.holds Tryd.pinned (OpenSpec.ofChange quotOnesWrong)

/-- 'casuistlaw04.RoundNear': WHATEVER THE INPUT: true; the input reads as it did. -/
def roundNearSpec : ChangeSpec := { name := "roundNear", fn := fun _ => fun
  | [d] => { results := [.lit (.bool true)], args := [d] }
  | _ => none }
def roundNearRow : OpenClaim := { program := "ytoobmopmmoficaadoor", sum := "3ff05f5153a7ba8d4709fc6287eb93cced9203462ffb9f279f224b1a82c8b251", func := "casuist/casuistlaw04.RoundNear", spec := "roundNear", inPlace := ["math/bits.Add64", "math/bits.Sub64"], recurses := true, named := ["casuist/wide.wordTen", "math/bits.divideError", "math/bits.overflowError"], apart := false, laid := [("casuist/wide.wordTen", laid_casuist_wide_wordTen)] }
def RoundNearSaid : Prop := roundNearRow.holds Tryd.pinned (OpenSpec.ofChange roundNearSpec)

/-- ITS FALSE NEIGHBOUR: 'it returns false'. Refute it at one input. -/
def roundNearWrong : ChangeSpec := { name := "roundNear", fn := fun _ => fun
  | [d] => { results := [.lit (.bool false)], args := [d] }
  | _ => none }
def RoundNearWrongFalsely : Prop := roundNearRow.holds Tryd.pinned (OpenSpec.ofChange roundNearWrong)

/-- 'casuistlaw04.RoundModes': WHATEVER THE INPUT: true; the input reads as it did. -/
def roundModesSpec : ChangeSpec := { name := "roundModes", fn := fun _ => fun
  | [d1, d2, d3] => { results := [.lit (.bool true)], args := [d1, d2, d3] }
  | _ => none }
def roundModesRow : OpenClaim := { program := "ytoobmopmmoficaadoor", sum := "3ff05f5153a7ba8d4709fc6287eb93cced9203462ffb9f279f224b1a82c8b251", func := "casuist/casuistlaw04.RoundModes", spec := "roundModes", inPlace := ["math/bits.Add64", "math/bits.Sub64"], recurses := true, named := ["casuist/wide.wordTen", "math/bits.divideError", "math/bits.overflowError"], apart := false, laid := [("casuist/wide.wordTen", laid_casuist_wide_wordTen)] }
def RoundModesSaid : Prop := roundModesRow.holds Tryd.pinned (OpenSpec.ofChange roundModesSpec)

/-- ITS FALSE NEIGHBOUR: 'it returns false'. Refute it at one input. -/
def roundModesWrong : ChangeSpec := { name := "roundModes", fn := fun _ => fun
  | [d1, d2, d3] => { results := [.lit (.bool false)], args := [d1, d2, d3] }
  | _ => none }
def RoundModesWrongFalsely : Prop := roundModesRow.holds Tryd.pinned (OpenSpec.ofChange roundModesWrong)

/-- 'casuistlaw04.RoundModulo': WHATEVER THE INPUT: true; the input reads as it did. -/
def roundModuloSpec : ChangeSpec := { name := "roundModulo", fn := fun _ => fun
  | [d1, d2, d3] => { results := [.lit (.bool true)], args := [d1, d2, d3] }
  | _ => none }
def roundModuloRow : OpenClaim := { program := "ytoobmopmmoficaadoor", sum := "3ff05f5153a7ba8d4709fc6287eb93cced9203462ffb9f279f224b1a82c8b251", func := "casuist/casuistlaw04.RoundModulo", spec := "roundModulo", inPlace := ["math/bits.Add64", "math/bits.Sub64"], recurses := true, named := ["casuist/wide.wordTen", "math/bits.divideError", "math/bits.overflowError"], apart := false, laid := [("casuist/wide.wordTen", laid_casuist_wide_wordTen)] }
def RoundModuloSaid : Prop := roundModuloRow.holds Tryd.pinned (OpenSpec.ofChange roundModuloSpec)

/-- ITS FALSE NEIGHBOUR: 'it returns false'. Refute it at one input. -/
def roundModuloWrong : ChangeSpec := { name := "roundModulo", fn := fun _ => fun
  | [d1, d2, d3] => { results := [.lit (.bool false)], args := [d1, d2, d3] }
  | _ => none }
def RoundModuloWrongFalsely : Prop := roundModuloRow.holds Tryd.pinned (OpenSpec.ofChange roundModuloWrong)

/-- 'casuistlaw04.RoundParity': WHATEVER THE INPUT: true; the input reads as it did. -/
def roundParitySpec : ChangeSpec := { name := "roundParity", fn := fun _ => fun
  | [d] => { results := [.lit (.bool true)], args := [d] }
  | _ => none }
def roundParityRow : OpenClaim := { program := "ytoobmopmmoficaadoor", sum := "3ff05f5153a7ba8d4709fc6287eb93cced9203462ffb9f279f224b1a82c8b251", func := "casuist/casuistlaw04.RoundParity", spec := "roundParity", inPlace := ["math/bits.Add64", "math/bits.Sub64"], recurses := true, named := ["casuist/wide.wordTen", "math/bits.divideError", "math/bits.overflowError"], apart := false, laid := [("casuist/wide.wordTen", laid_casuist_wide_wordTen)] }
def RoundParitySaid : Prop := roundParityRow.holds Tryd.pinned (OpenSpec.ofChange roundParitySpec)

/-- ITS FALSE NEIGHBOUR: 'it returns false'. Refute it at one input. -/
def roundParityWrong : ChangeSpec := { name := "roundParity", fn := fun _ => fun
  | [d] => { results := [.lit (.bool false)], args := [d] }
  | _ => none }
def RoundParityWrongFalsely : Prop := roundParityRow.holds Tryd.pinned (OpenSpec.ofChange roundParityWrong)

/-- 'casuistlaw05.NumeralTells': WHATEVER THE INPUT: true; the input reads as it did. -/
def numeralTellsSpec : ChangeSpec := { name := "numeralTells", fn := fun _ => fun
  | [d] => { results := [.lit (.bool true)], args := [d] }
  | _ => none }
def numeralTellsRow : OpenClaim := { program := "ytoobmopmmoficaadoor", sum := "3ff05f5153a7ba8d4709fc6287eb93cced9203462ffb9f279f224b1a82c8b251", func := "casuist/casuistlaw05.NumeralTells", spec := "numeralTells", inPlace := ["math/bits.Add64", "internal/abi.NoEscape", "internal/bytealg.MakeNoZero", "math/bits.Sub64"], recurses := true, named := ["casuist/wide.wordTen", "math/bits.divideError", "math/bits.overflowError", "internal/strconv.uint64pow10", "math/bits.deBruijn32tab", "math/bits.deBruijn64tab"], apart := false, laid := [("math/bits.deBruijn32tab", laid_math_bits_deBruijn32tab), ("math/bits.deBruijn64tab", laid_math_bits_deBruijn64tab), ("internal/strconv.uint64pow10", laid_internal_strconv_uint64pow10), ("casuist/wide.wordTen", laid_casuist_wide_wordTen)] }
def NumeralTellsSaid : Prop := numeralTellsRow.holds Tryd.pinned (OpenSpec.ofChange numeralTellsSpec)

/-- ITS FALSE NEIGHBOUR: 'it returns false'. Refute it at one input. -/
def numeralTellsWrong : ChangeSpec := { name := "numeralTells", fn := fun _ => fun
  | [d] => { results := [.lit (.bool false)], args := [d] }
  | _ => none }
def NumeralTellsWrongFalsely : Prop := numeralTellsRow.holds Tryd.pinned (OpenSpec.ofChange numeralTellsWrong)

/-- 'casuistlaw05.NumeralOne': WHATEVER THE INPUT: true; the input reads as it did. -/
def numeralOneSpec : ChangeSpec := { name := "numeralOne", fn := fun _ => fun
  | [d1, d2] => { results := [.lit (.bool true)], args := [d1, d2] }
  | _ => none }
def numeralOneRow : OpenClaim := { program := "ytoobmopmmoficaadoor", sum := "3ff05f5153a7ba8d4709fc6287eb93cced9203462ffb9f279f224b1a82c8b251", func := "casuist/casuistlaw05.NumeralOne", spec := "numeralOne", inPlace := ["math/bits.Add64", "internal/abi.NoEscape", "internal/bytealg.MakeNoZero", "math/bits.Sub64"], recurses := true, named := ["casuist/wide.wordTen", "math/bits.divideError", "math/bits.overflowError", "internal/strconv.uint64pow10", "math/bits.deBruijn32tab", "math/bits.deBruijn64tab"], apart := false, laid := [("math/bits.deBruijn32tab", laid_math_bits_deBruijn32tab), ("math/bits.deBruijn64tab", laid_math_bits_deBruijn64tab), ("internal/strconv.uint64pow10", laid_internal_strconv_uint64pow10), ("casuist/wide.wordTen", laid_casuist_wide_wordTen)] }
def NumeralOneSaid : Prop := numeralOneRow.holds Tryd.pinned (OpenSpec.ofChange numeralOneSpec)

/-- ITS FALSE NEIGHBOUR: 'it returns false'. Refute it at one input. -/
def numeralOneWrong : ChangeSpec := { name := "numeralOne", fn := fun _ => fun
  | [d1, d2] => { results := [.lit (.bool false)], args := [d1, d2] }
  | _ => none }
def NumeralOneWrongFalsely : Prop := numeralOneRow.holds Tryd.pinned (OpenSpec.ofChange numeralOneWrong)

/-- 'casuistlaw05.NumeralBack': WHATEVER THE INPUT: true; the input reads as it did. -/
def numeralBackSpec : ChangeSpec := { name := "numeralBack", fn := fun _ => fun
  | [d] => { results := [.lit (.bool true)], args := [d] }
  | _ => none }
def numeralBackRow : OpenClaim := { program := "ytoobmopmmoficaadoor", sum := "3ff05f5153a7ba8d4709fc6287eb93cced9203462ffb9f279f224b1a82c8b251", func := "casuist/casuistlaw05.NumeralBack", spec := "numeralBack", inPlace := ["math/bits.Add64", "internal/abi.NoEscape", "internal/bytealg.MakeNoZero"], recurses := true, named := ["casuist/wide.wordTen", "math/bits.divideError", "math/bits.overflowError", "internal/strconv.uint64pow10", "math/bits.deBruijn32tab", "math/bits.deBruijn64tab"], apart := false, laid := [("math/bits.deBruijn32tab", laid_math_bits_deBruijn32tab), ("math/bits.deBruijn64tab", laid_math_bits_deBruijn64tab), ("internal/strconv.uint64pow10", laid_internal_strconv_uint64pow10), ("casuist/wide.wordTen", laid_casuist_wide_wordTen)] }
def NumeralBackSaid : Prop := numeralBackRow.holds Tryd.pinned (OpenSpec.ofChange numeralBackSpec)

/-- ITS FALSE NEIGHBOUR: 'it returns false'. Refute it at one input. -/
def numeralBackWrong : ChangeSpec := { name := "numeralBack", fn := fun _ => fun
  | [d] => { results := [.lit (.bool false)], args := [d] }
  | _ => none }
def NumeralBackWrongFalsely : Prop := numeralBackRow.holds Tryd.pinned (OpenSpec.ofChange numeralBackWrong)

/-- 'casuistlaw05.NumeralShifts': WHATEVER THE INPUT: true; the input reads as it did. -/
def numeralShiftsSpec : ChangeSpec := { name := "numeralShifts", fn := fun _ => fun
  | [d] => { results := [.lit (.bool true)], args := [d] }
  | _ => none }
def numeralShiftsRow : OpenClaim := { program := "ytoobmopmmoficaadoor", sum := "3ff05f5153a7ba8d4709fc6287eb93cced9203462ffb9f279f224b1a82c8b251", func := "casuist/casuistlaw05.NumeralShifts", spec := "numeralShifts", inPlace := ["math/bits.Add64", "internal/abi.NoEscape", "internal/bytealg.MakeNoZero"], recurses := true, named := ["casuist/wide.wordTen", "math/bits.divideError", "math/bits.overflowError", "internal/strconv.uint64pow10", "math/bits.deBruijn32tab", "math/bits.deBruijn64tab"], apart := false, laid := [("math/bits.deBruijn32tab", laid_math_bits_deBruijn32tab), ("math/bits.deBruijn64tab", laid_math_bits_deBruijn64tab), ("internal/strconv.uint64pow10", laid_internal_strconv_uint64pow10), ("casuist/wide.wordTen", laid_casuist_wide_wordTen)] }
def NumeralShiftsSaid : Prop := numeralShiftsRow.holds Tryd.pinned (OpenSpec.ofChange numeralShiftsSpec)

/-- ITS FALSE NEIGHBOUR: 'it returns false'. Refute it at one input. -/
def numeralShiftsWrong : ChangeSpec := { name := "numeralShifts", fn := fun _ => fun
  | [d] => { results := [.lit (.bool false)], args := [d] }
  | _ => none }
def NumeralShiftsWrongFalsely : Prop := numeralShiftsRow.holds Tryd.pinned (OpenSpec.ofChange numeralShiftsWrong)

/- THE SECOND FORM. 'bulk': how many values and letters a reading holds, each counted each time it is reached (what is shared counts as often as it is met; a slice's spare places count too). A statement '..UptoSaid' is the law's where the arguments, and the package variables that the reading takes, are together of bulk at most 1048576: NARROWER than '..Said'. Prove '..Said' where nothing that the law and all that it calls make is longer than what came in: it says more and counts as full. Else prove '..UptoSaid'. A law counts once. -/
mutual
def uptoBulk {H : Type} : DataW H → Nat
  | .lit (.string bytes) => bytes.length + 1
  | .lit _ => 1
  | .nil => 1
  | .ptr d => uptoBulk d + 1
  | .slice elems spare => uptoBulkAll elems + uptoBulkAll spare + 1
  | .agg parts => uptoBulkAll parts + 1
  | .iface _ d => uptoBulk d + 1
  | .map entries => uptoBulkEntries entries + 1
  | .held _ => 1
def uptoBulkAll {H : Type} : List (DataW H) → Nat
  | [] => 0
  | d :: r => uptoBulk d + uptoBulkAll r
def uptoBulkEntries {H : Type} : List (Lit × DataW H) → Nat
  | [] => 0
  | x :: r => uptoBulkEntry x + uptoBulkEntries r
def uptoBulkEntry {H : Type} : Lit × DataW H → Nat
  | (.string bytes, d) => bytes.length + uptoBulk d + 1
  | (_, d) => uptoBulk d + 1
 end
def uptoSmall : (H : Type) → List (DataW H) → Bool := fun _ ds => decide (uptoBulkAll ds ≤ 1048576)
def OpenSpec.upto (s : _root_.Go.ChangeSpec) : _root_.Go.OpenSpec := { _root_.Go.OpenSpec.ofChange s with cond := some uptoSmall }

/-- 'casuistlaw03.QuotRoots', WHERE WHAT IT READS IS OF BULK AT MOST 1048576: true; the input reads as it did. -/
def quotRootsUptoRow : OpenClaim := { program := "ytoobmopmmoficaadoor", sum := "3ff05f5153a7ba8d4709fc6287eb93cced9203462ffb9f279f224b1a82c8b251", func := "casuist/casuistlaw03.QuotRoots", spec := "quotRoots", inPlace := ["math/bits.Add64", "math/bits.Sub64"], named := ["casuist/wide.wordTen", "math/bits.divideError", "math/bits.overflowError"], apart := false, laid := [("casuist/wide.wordTen", laid_casuist_wide_wordTen)], narrowed := true }
def QuotRootsUptoSaid : Prop := quotRootsUptoRow.holds Tryd.pinned (OpenSpec.upto quotRootsSpec)

/-- 'casuistlaw03.QuotBack', WHERE WHAT IT READS IS OF BULK AT MOST 1048576: true; the input reads as it did. -/
def quotBackUptoRow : OpenClaim := { program := "ytoobmopmmoficaadoor", sum := "3ff05f5153a7ba8d4709fc6287eb93cced9203462ffb9f279f224b1a82c8b251", func := "casuist/casuistlaw03.QuotBack", spec := "quotBack", inPlace := ["math/bits.Add64", "math/bits.Sub64"], named := ["casuist/wide.wordTen", "math/bits.divideError", "math/bits.overflowError"], apart := false, laid := [("casuist/wide.wordTen", laid_casuist_wide_wordTen)], narrowed := true }
def QuotBackUptoSaid : Prop := quotBackUptoRow.holds Tryd.pinned (OpenSpec.upto quotBackSpec)

/-- 'casuistlaw03.QuotSquares', WHERE WHAT IT READS IS OF BULK AT MOST 1048576: true; the input reads as it did. -/
def quotSquaresUptoRow : OpenClaim := { program := "ytoobmopmmoficaadoor", sum := "3ff05f5153a7ba8d4709fc6287eb93cced9203462ffb9f279f224b1a82c8b251", func := "casuist/casuistlaw03.QuotSquares", spec := "quotSquares", inPlace := ["math/bits.Add64", "math/bits.Sub64"], named := ["casuist/wide.wordTen", "math/bits.divideError", "math/bits.overflowError"], apart := false, laid := [("casuist/wide.wordTen", laid_casuist_wide_wordTen)], narrowed := true }
def QuotSquaresUptoSaid : Prop := quotSquaresUptoRow.holds Tryd.pinned (OpenSpec.upto quotSquaresSpec)

/-- 'casuistlaw03.QuotOnes', WHERE WHAT IT READS IS OF BULK AT MOST 1048576: true; the input reads as it did. -/
def quotOnesUptoRow : OpenClaim := { program := "ytoobmopmmoficaadoor", sum := "3ff05f5153a7ba8d4709fc6287eb93cced9203462ffb9f279f224b1a82c8b251", func := "casuist/casuistlaw03.QuotOnes", spec := "quotOnes", inPlace := ["math/bits.Add64", "math/bits.Sub64"], named := ["casuist/wide.wordTen", "math/bits.divideError", "math/bits.overflowError"], apart := false, laid := [("casuist/wide.wordTen", laid_casuist_wide_wordTen)], narrowed := true }
def QuotOnesUptoSaid : Prop := quotOnesUptoRow.holds Tryd.pinned (OpenSpec.upto quotOnesSpec)

/-- 'casuistlaw04.RoundNear', WHERE WHAT IT READS IS OF BULK AT MOST 1048576: true; the input reads as it did. -/
def roundNearUptoRow : OpenClaim := { program := "ytoobmopmmoficaadoor", sum := "3ff05f5153a7ba8d4709fc6287eb93cced9203462ffb9f279f224b1a82c8b251", func := "casuist/casuistlaw04.RoundNear", spec := "roundNear", inPlace := ["math/bits.Add64", "math/bits.Sub64"], recurses := true, named := ["casuist/wide.wordTen", "math/bits.divideError", "math/bits.overflowError"], apart := false, laid := [("casuist/wide.wordTen", laid_casuist_wide_wordTen)], narrowed := true }
def RoundNearUptoSaid : Prop := roundNearUptoRow.holds Tryd.pinned (OpenSpec.upto roundNearSpec)

/-- 'casuistlaw04.RoundModes', WHERE WHAT IT READS IS OF BULK AT MOST 1048576: true; the input reads as it did. -/
def roundModesUptoRow : OpenClaim := { program := "ytoobmopmmoficaadoor", sum := "3ff05f5153a7ba8d4709fc6287eb93cced9203462ffb9f279f224b1a82c8b251", func := "casuist/casuistlaw04.RoundModes", spec := "roundModes", inPlace := ["math/bits.Add64", "math/bits.Sub64"], recurses := true, named := ["casuist/wide.wordTen", "math/bits.divideError", "math/bits.overflowError"], apart := false, laid := [("casuist/wide.wordTen", laid_casuist_wide_wordTen)], narrowed := true }
def RoundModesUptoSaid : Prop := roundModesUptoRow.holds Tryd.pinned (OpenSpec.upto roundModesSpec)

/-- 'casuistlaw04.RoundModulo', WHERE WHAT IT READS IS OF BULK AT MOST 1048576: true; the input reads as it did. -/
def roundModuloUptoRow : OpenClaim := { program := "ytoobmopmmoficaadoor", sum := "3ff05f5153a7ba8d4709fc6287eb93cced9203462ffb9f279f224b1a82c8b251", func := "casuist/casuistlaw04.RoundModulo", spec := "roundModulo", inPlace := ["math/bits.Add64", "math/bits.Sub64"], recurses := true, named := ["casuist/wide.wordTen", "math/bits.divideError", "math/bits.overflowError"], apart := false, laid := [("casuist/wide.wordTen", laid_casuist_wide_wordTen)], narrowed := true }
def RoundModuloUptoSaid : Prop := roundModuloUptoRow.holds Tryd.pinned (OpenSpec.upto roundModuloSpec)

/-- 'casuistlaw04.RoundParity', WHERE WHAT IT READS IS OF BULK AT MOST 1048576: true; the input reads as it did. -/
def roundParityUptoRow : OpenClaim := { program := "ytoobmopmmoficaadoor", sum := "3ff05f5153a7ba8d4709fc6287eb93cced9203462ffb9f279f224b1a82c8b251", func := "casuist/casuistlaw04.RoundParity", spec := "roundParity", inPlace := ["math/bits.Add64", "math/bits.Sub64"], recurses := true, named := ["casuist/wide.wordTen", "math/bits.divideError", "math/bits.overflowError"], apart := false, laid := [("casuist/wide.wordTen", laid_casuist_wide_wordTen)], narrowed := true }
def RoundParityUptoSaid : Prop := roundParityUptoRow.holds Tryd.pinned (OpenSpec.upto roundParitySpec)

/-- 'casuistlaw05.NumeralTells', WHERE WHAT IT READS IS OF BULK AT MOST 1048576: true; the input reads as it did. -/
def numeralTellsUptoRow : OpenClaim := { program := "ytoobmopmmoficaadoor", sum := "3ff05f5153a7ba8d4709fc6287eb93cced9203462ffb9f279f224b1a82c8b251", func := "casuist/casuistlaw05.NumeralTells", spec := "numeralTells", inPlace := ["math/bits.Add64", "internal/abi.NoEscape", "internal/bytealg.MakeNoZero", "math/bits.Sub64"], recurses := true, named := ["casuist/wide.wordTen", "math/bits.divideError", "math/bits.overflowError", "internal/strconv.uint64pow10", "math/bits.deBruijn32tab", "math/bits.deBruijn64tab"], apart := false, laid := [("math/bits.deBruijn32tab", laid_math_bits_deBruijn32tab), ("math/bits.deBruijn64tab", laid_math_bits_deBruijn64tab), ("internal/strconv.uint64pow10", laid_internal_strconv_uint64pow10), ("casuist/wide.wordTen", laid_casuist_wide_wordTen)], narrowed := true }
def NumeralTellsUptoSaid : Prop := numeralTellsUptoRow.holds Tryd.pinned (OpenSpec.upto numeralTellsSpec)

/-- 'casuistlaw05.NumeralOne', WHERE WHAT IT READS IS OF BULK AT MOST 1048576: true; the input reads as it did. -/
def numeralOneUptoRow : OpenClaim := { program := "ytoobmopmmoficaadoor", sum := "3ff05f5153a7ba8d4709fc6287eb93cced9203462ffb9f279f224b1a82c8b251", func := "casuist/casuistlaw05.NumeralOne", spec := "numeralOne", inPlace := ["math/bits.Add64", "internal/abi.NoEscape", "internal/bytealg.MakeNoZero", "math/bits.Sub64"], recurses := true, named := ["casuist/wide.wordTen", "math/bits.divideError", "math/bits.overflowError", "internal/strconv.uint64pow10", "math/bits.deBruijn32tab", "math/bits.deBruijn64tab"], apart := false, laid := [("math/bits.deBruijn32tab", laid_math_bits_deBruijn32tab), ("math/bits.deBruijn64tab", laid_math_bits_deBruijn64tab), ("internal/strconv.uint64pow10", laid_internal_strconv_uint64pow10), ("casuist/wide.wordTen", laid_casuist_wide_wordTen)], narrowed := true }
def NumeralOneUptoSaid : Prop := numeralOneUptoRow.holds Tryd.pinned (OpenSpec.upto numeralOneSpec)

/-- 'casuistlaw05.NumeralBack', WHERE WHAT IT READS IS OF BULK AT MOST 1048576: true; the input reads as it did. -/
def numeralBackUptoRow : OpenClaim := { program := "ytoobmopmmoficaadoor", sum := "3ff05f5153a7ba8d4709fc6287eb93cced9203462ffb9f279f224b1a82c8b251", func := "casuist/casuistlaw05.NumeralBack", spec := "numeralBack", inPlace := ["math/bits.Add64", "internal/abi.NoEscape", "internal/bytealg.MakeNoZero"], recurses := true, named := ["casuist/wide.wordTen", "math/bits.divideError", "math/bits.overflowError", "internal/strconv.uint64pow10", "math/bits.deBruijn32tab", "math/bits.deBruijn64tab"], apart := false, laid := [("math/bits.deBruijn32tab", laid_math_bits_deBruijn32tab), ("math/bits.deBruijn64tab", laid_math_bits_deBruijn64tab), ("internal/strconv.uint64pow10", laid_internal_strconv_uint64pow10), ("casuist/wide.wordTen", laid_casuist_wide_wordTen)], narrowed := true }
def NumeralBackUptoSaid : Prop := numeralBackUptoRow.holds Tryd.pinned (OpenSpec.upto numeralBackSpec)

/-- 'casuistlaw05.NumeralShifts', WHERE WHAT IT READS IS OF BULK AT MOST 1048576: true; the input reads as it did. -/
def numeralShiftsUptoRow : OpenClaim := { program := "ytoobmopmmoficaadoor", sum := "3ff05f5153a7ba8d4709fc6287eb93cced9203462ffb9f279f224b1a82c8b251", func := "casuist/casuistlaw05.NumeralShifts", spec := "numeralShifts", inPlace := ["math/bits.Add64", "internal/abi.NoEscape", "internal/bytealg.MakeNoZero"], recurses := true, named := ["casuist/wide.wordTen", "math/bits.divideError", "math/bits.overflowError", "internal/strconv.uint64pow10", "math/bits.deBruijn32tab", "math/bits.deBruijn64tab"], apart := false, laid := [("math/bits.deBruijn32tab", laid_math_bits_deBruijn32tab), ("math/bits.deBruijn64tab", laid_math_bits_deBruijn64tab), ("internal/strconv.uint64pow10", laid_internal_strconv_uint64pow10), ("casuist/wide.wordTen", laid_casuist_wide_wordTen)], narrowed := true }
def NumeralShiftsUptoSaid : Prop := numeralShiftsUptoRow.holds Tryd.pinned (OpenSpec.upto numeralShiftsSpec)

end Rows
end Go.Proofs.YtoobmopmmoficaaDoor
