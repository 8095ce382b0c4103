/-
  The document's answer of layer 16: symbol, as a contract of its call.
-/
import Derived.Test.YtfelcneedpndiaaDoorIh
namespace Go.Proofs.YtfelcneedpndiaaDoor
open Go.RowKit Go.Lib

end Go.Proofs.YtfelcneedpndiaaDoor
