/-
  Sums and differences of numbers (Add, Sub of package dec), each as a contract of its call.
-/
import Derived.Test.YtkkddflclakphaaDoorE9
import Derived.Test.YtkkddflclakphaaDoorEv
namespace Go.Proofs.YtkkddflclakphaaDoor
open Go.RowKit

theorem sumH_hi {na nb : Bool} {ca cb : Nat} {ea eb : Int} (h : ea ≤ 6111) (h' : eb ≤ 6111) : (sumH na ca ea nb cb eb).2.2.1 ≤ 6111 := by
  unfold sumH
  split
  · exact h'
  · split
    · show ea - _ ≤ 6111; omega
    · split
      · show ea - _ ≤ 6111; omega
      · show ea - _ ≤ 6111; omega
theorem sumF_hi {na nb : Bool} {ca cb : Nat} {ea eb : Int} (h1 : NumD ca ea) (h2 : NumD cb eb) : (sumF na ca ea nb cb eb).2.2.1 ≤ 6111 := by
  unfold sumF
  split
  · exact sumH_hi h2.2.2 h1.2.2
  · exact sumH_hi h1.2.2 h2.2.2

end Go.Proofs.YtkkddflclakphaaDoor
