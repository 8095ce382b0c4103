/-
  The document's examples of layer 2 hold: awake of the laws, Add and Sub being what they are.
-/
import Derived.Test.YteboohejlkionaaDoorAw
import Derived.Test.YteboohejlkionaaDoorEa
namespace Go.Proofs.YteboohejlkionaaDoor
theorem addC : AddC := addD_any
theorem subC : SubC := subD_any
theorem awC : AwC := awake2 addC subC
end Go.Proofs.YteboohejlkionaaDoor
