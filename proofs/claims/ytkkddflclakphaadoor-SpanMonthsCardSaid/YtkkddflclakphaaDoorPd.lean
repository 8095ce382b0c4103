/-
  The document's examples of layer 2, by plain arithmetic.
-/
import Derived.Test.YtkkddflclakphaaDoorPc
import Derived.Test.YtkkddflclakphaaDoorE7
namespace Go.Proofs.YtkkddflclakphaaDoor

theorem ex_add : addF false 15 (-1) false 250 (-2) = some (false, 400, -2) := by decide +kernel
theorem ex_mul : mulF false 120 (-2) false 3 0 = some (false, 360, -2) := by decide +kernel
theorem ex_up : addF false 9999999999999999999999999999999999 0 false 5 (-1) = some (false, 1000000000000000000000000000000000, 1) := by decide +kernel
theorem ex_sub : addF false 1 0 true 100 (-2) = some (false, 0, -2) := by decide +kernel
theorem ex_cmp : cmpD false 10 (-1) false 1 0 = 0 := by decide +kernel
end Go.Proofs.YtkkddflclakphaaDoor
