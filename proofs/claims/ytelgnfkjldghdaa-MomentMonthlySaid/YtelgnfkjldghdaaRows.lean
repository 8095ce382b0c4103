/-
  No cell of these rows narrows 'for every input' (looked for: loops, veiled, ifaces, maps, wideKeys, modest, calm, conditions, laid).
  DERIVED. THE GIVEN ROWS OF THIS SEAT. 5 by the template 'for every input the law returns true; each argument reads behind the call as it read before'; 0 by the template 'total and deterministic' (their statements: YtelgnfkjldghdaaTotals.lean).
  GIVEN WITH THE SEED: the statements are not yours to turn. If you find one false, say at which input.
  Laid BY PROGRAM, IN A SANDBOX (cutbox-rows.mjs): the forced cells as the released guide's own fill.sh prints them over the translation 5d9ab6166ea671e4… (all of the seat's roots in one cut). By AI agents, Wed Nov 11 2026. No macro, syntax, notation, axiom, sorry.
-/
import Derived.Test.YtelgnfkjldghdaaChecked
import GoSem.Claim
import GoSem.ClaimJoined
import GoSem.ClaimMapViews
import Derived.JoinedTies
import Derived.KernelRfl
namespace Go.Proofs.Ytelgnfkjldghdaa
/- THE CELL 'sum', in the pinned program and in every row, IS THE sha256 OF THE DUMP (.gsa) THAT YtelgnfkjldghdaaProg.lean LOADS. Nothing in Lean hashes anything: it is a label: what it is worth is what the hold of that sum in a sandbox is worth. -/
noncomputable def Try.pinned : Pinned := { name := "ytelgnfkjldghdaa", sum := "5d9ab6166ea671e4c23e6c8bc52450b34b60a5d40b1e2b2286735a0933e6b87f", checked := Try.checked }
namespace Rows
def none {H : Type} : Left H := { results := [], args := [] }

/-- 'casuistlaw08.MomentInstants': WHATEVER THE INPUT: true; the input reads as it did. -/
def momentInstantsSpec : ChangeSpec := { name := "momentInstants", fn := fun _ => fun
  | [d1, d2, d3, d4] => { results := [.lit (.bool true)], args := [d1, d2, d3, d4] }
  | _ => none }
def momentInstantsRow : OpenClaim := { program := "ytelgnfkjldghdaa", sum := "5d9ab6166ea671e4c23e6c8bc52450b34b60a5d40b1e2b2286735a0933e6b87f", func := "casuist/casuistlaw08.MomentInstants", spec := "momentInstants", apart := false }
def MomentInstantsSaid : Prop := momentInstantsRow.holds Try.pinned (OpenSpec.ofChange momentInstantsSpec)

/-- ITS FALSE NEIGHBOUR: 'it returns false'. Refute it at one input. -/
def momentInstantsWrong : ChangeSpec := { name := "momentInstants", fn := fun _ => fun
  | [d1, d2, d3, d4] => { results := [.lit (.bool false)], args := [d1, d2, d3, d4] }
  | _ => none }
def MomentInstantsWrongFalsely : Prop := momentInstantsRow.holds Try.pinned (OpenSpec.ofChange momentInstantsWrong)

/-- 'casuistlaw08.MomentLater': WHATEVER THE INPUT: true; the input reads as it did. -/
def momentLaterSpec : ChangeSpec := { name := "momentLater", fn := fun _ => fun
  | [d1, d2, d3] => { results := [.lit (.bool true)], args := [d1, d2, d3] }
  | _ => none }
def momentLaterRow : OpenClaim := { program := "ytelgnfkjldghdaa", sum := "5d9ab6166ea671e4c23e6c8bc52450b34b60a5d40b1e2b2286735a0933e6b87f", func := "casuist/casuistlaw08.MomentLater", spec := "momentLater", apart := false }
def MomentLaterSaid : Prop := momentLaterRow.holds Try.pinned (OpenSpec.ofChange momentLaterSpec)

/-- ITS FALSE NEIGHBOUR: 'it returns false'. Refute it at one input. -/
def momentLaterWrong : ChangeSpec := { name := "momentLater", fn := fun _ => fun
  | [d1, d2, d3] => { results := [.lit (.bool false)], args := [d1, d2, d3] }
  | _ => none }
def MomentLaterWrongFalsely : Prop := momentLaterRow.holds Try.pinned (OpenSpec.ofChange momentLaterWrong)

/-- 'casuistlaw08.MomentMonths': WHATEVER THE INPUT: true; the input reads as it did. -/
def momentMonthsSpec : ChangeSpec := { name := "momentMonths", fn := fun _ => fun
  | [d1, d2, d3] => { results := [.lit (.bool true)], args := [d1, d2, d3] }
  | _ => none }
def momentMonthsRow : OpenClaim := { program := "ytelgnfkjldghdaa", sum := "5d9ab6166ea671e4c23e6c8bc52450b34b60a5d40b1e2b2286735a0933e6b87f", func := "casuist/casuistlaw08.MomentMonths", spec := "momentMonths", apart := false }
def MomentMonthsSaid : Prop := momentMonthsRow.holds Try.pinned (OpenSpec.ofChange momentMonthsSpec)

/-- ITS FALSE NEIGHBOUR: 'it returns false'. Refute it at one input. -/
def momentMonthsWrong : ChangeSpec := { name := "momentMonths", fn := fun _ => fun
  | [d1, d2, d3] => { results := [.lit (.bool false)], args := [d1, d2, d3] }
  | _ => none }
def MomentMonthsWrongFalsely : Prop := momentMonthsRow.holds Try.pinned (OpenSpec.ofChange momentMonthsWrong)

/-- 'casuistlaw08.MomentBetween': WHATEVER THE INPUT: true; the input reads as it did. -/
def momentBetweenSpec : ChangeSpec := { name := "momentBetween", fn := fun _ => fun
  | [d1, d2, d3] => { results := [.lit (.bool true)], args := [d1, d2, d3] }
  | _ => none }
def momentBetweenRow : OpenClaim := { program := "ytelgnfkjldghdaa", sum := "5d9ab6166ea671e4c23e6c8bc52450b34b60a5d40b1e2b2286735a0933e6b87f", func := "casuist/casuistlaw08.MomentBetween", spec := "momentBetween", apart := false }
def MomentBetweenSaid : Prop := momentBetweenRow.holds Try.pinned (OpenSpec.ofChange momentBetweenSpec)

/-- ITS FALSE NEIGHBOUR: 'it returns false'. Refute it at one input. -/
def momentBetweenWrong : ChangeSpec := { name := "momentBetween", fn := fun _ => fun
  | [d1, d2, d3] => { results := [.lit (.bool false)], args := [d1, d2, d3] }
  | _ => none }
def MomentBetweenWrongFalsely : Prop := momentBetweenRow.holds Try.pinned (OpenSpec.ofChange momentBetweenWrong)

/-- 'casuistlaw08.MomentMonthly': WHATEVER THE INPUT: true; the input reads as it did. -/
def momentMonthlySpec : ChangeSpec := { name := "momentMonthly", fn := fun _ => fun
  | [d1, d2] => { results := [.lit (.bool true)], args := [d1, d2] }
  | _ => none }
def momentMonthlyRow : OpenClaim := { program := "ytelgnfkjldghdaa", sum := "5d9ab6166ea671e4c23e6c8bc52450b34b60a5d40b1e2b2286735a0933e6b87f", func := "casuist/casuistlaw08.MomentMonthly", spec := "momentMonthly", apart := false }
def MomentMonthlySaid : Prop := momentMonthlyRow.holds Try.pinned (OpenSpec.ofChange momentMonthlySpec)

/-- ITS FALSE NEIGHBOUR: 'it returns false'. Refute it at one input. -/
def momentMonthlyWrong : ChangeSpec := { name := "momentMonthly", fn := fun _ => fun
  | [d1, d2] => { results := [.lit (.bool false)], args := [d1, d2] }
  | _ => none }
def MomentMonthlyWrongFalsely : Prop := momentMonthlyRow.holds Try.pinned (OpenSpec.ofChange momentMonthlyWrong)

/- THE SECOND FORM. 'bulk': how many values and letters a reading holds, each counted each time it is reached (what is shared counts as often as it is met; a slice's spare places count too). A statement '..UptoSaid' is the law's where the arguments, and the package variables that the reading takes, are together of bulk at most 1048576: NARROWER than '..Said'. Prove '..Said' where nothing that the law and all that it calls make is longer than what came in: it says more and counts as full. Else prove '..UptoSaid'. A law counts once. -/
mutual
def uptoBulk {H : Type} : DataW H → Nat
  | .lit (.string bytes) => bytes.length + 1
  | .lit _ => 1
  | .nil => 1
  | .ptr d => uptoBulk d + 1
  | .slice elems spare => uptoBulkAll elems + uptoBulkAll spare + 1
  | .agg parts => uptoBulkAll parts + 1
  | .iface _ d => uptoBulk d + 1
  | .map entries => uptoBulkEntries entries + 1
  | .held _ => 1
def uptoBulkAll {H : Type} : List (DataW H) → Nat
  | [] => 0
  | d :: r => uptoBulk d + uptoBulkAll r
def uptoBulkEntries {H : Type} : List (Lit × DataW H) → Nat
  | [] => 0
  | x :: r => uptoBulkEntry x + uptoBulkEntries r
def uptoBulkEntry {H : Type} : Lit × DataW H → Nat
  | (.string bytes, d) => bytes.length + uptoBulk d + 1
  | (_, d) => uptoBulk d + 1
 end
def uptoSmall : (H : Type) → List (DataW H) → Bool := fun _ ds => decide (uptoBulkAll ds ≤ 1048576)
def OpenSpec.upto (s : _root_.Go.ChangeSpec) : _root_.Go.OpenSpec := { _root_.Go.OpenSpec.ofChange s with cond := some uptoSmall }

/-- 'casuistlaw08.MomentInstants', WHERE WHAT IT READS IS OF BULK AT MOST 1048576: true; the input reads as it did. -/
def momentInstantsUptoRow : OpenClaim := { program := "ytelgnfkjldghdaa", sum := "5d9ab6166ea671e4c23e6c8bc52450b34b60a5d40b1e2b2286735a0933e6b87f", func := "casuist/casuistlaw08.MomentInstants", spec := "momentInstants", apart := false, narrowed := true }
def MomentInstantsUptoSaid : Prop := momentInstantsUptoRow.holds Try.pinned (OpenSpec.upto momentInstantsSpec)

/-- 'casuistlaw08.MomentLater', WHERE WHAT IT READS IS OF BULK AT MOST 1048576: true; the input reads as it did. -/
def momentLaterUptoRow : OpenClaim := { program := "ytelgnfkjldghdaa", sum := "5d9ab6166ea671e4c23e6c8bc52450b34b60a5d40b1e2b2286735a0933e6b87f", func := "casuist/casuistlaw08.MomentLater", spec := "momentLater", apart := false, narrowed := true }
def MomentLaterUptoSaid : Prop := momentLaterUptoRow.holds Try.pinned (OpenSpec.upto momentLaterSpec)

/-- 'casuistlaw08.MomentMonths', WHERE WHAT IT READS IS OF BULK AT MOST 1048576: true; the input reads as it did. -/
def momentMonthsUptoRow : OpenClaim := { program := "ytelgnfkjldghdaa", sum := "5d9ab6166ea671e4c23e6c8bc52450b34b60a5d40b1e2b2286735a0933e6b87f", func := "casuist/casuistlaw08.MomentMonths", spec := "momentMonths", apart := false, narrowed := true }
def MomentMonthsUptoSaid : Prop := momentMonthsUptoRow.holds Try.pinned (OpenSpec.upto momentMonthsSpec)

/-- 'casuistlaw08.MomentBetween', WHERE WHAT IT READS IS OF BULK AT MOST 1048576: true; the input reads as it did. -/
def momentBetweenUptoRow : OpenClaim := { program := "ytelgnfkjldghdaa", sum := "5d9ab6166ea671e4c23e6c8bc52450b34b60a5d40b1e2b2286735a0933e6b87f", func := "casuist/casuistlaw08.MomentBetween", spec := "momentBetween", apart := false, narrowed := true }
def MomentBetweenUptoSaid : Prop := momentBetweenUptoRow.holds Try.pinned (OpenSpec.upto momentBetweenSpec)

/-- 'casuistlaw08.MomentMonthly', WHERE WHAT IT READS IS OF BULK AT MOST 1048576: true; the input reads as it did. -/
def momentMonthlyUptoRow : OpenClaim := { program := "ytelgnfkjldghdaa", sum := "5d9ab6166ea671e4c23e6c8bc52450b34b60a5d40b1e2b2286735a0933e6b87f", func := "casuist/casuistlaw08.MomentMonthly", spec := "momentMonthly", apart := false, narrowed := true }
def MomentMonthlyUptoSaid : Prop := momentMonthlyUptoRow.holds Try.pinned (OpenSpec.upto momentMonthlySpec)

end Rows
end Go.Proofs.Ytelgnfkjldghdaa
