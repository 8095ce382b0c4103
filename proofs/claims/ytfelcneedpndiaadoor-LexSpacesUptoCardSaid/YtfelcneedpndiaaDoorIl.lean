/-
  The document's answer of layer 16: skip, as a contract of its call.
-/
import Derived.Test.YtfelcneedpndiaaDoorIh
namespace Go.Proofs.YtfelcneedpndiaaDoor
open Go.RowKit Go.Lib

def RetSk (L : List Nat) (o : Option (List Nat)) (k : Nat) (w : World) (e : Ending) (w' : World) : Prop :=
  ∃ (j : Nat) (ok : Bool), e = .returned (.tuple #[.int .i64 (j : Int), .bool ok]) ∧ w = w' ∧ (match o with | none => ok = false | some S => ok = true ∧ k ≤ j ∧ j ≤ L.length ∧ L.drop j = S)
theorem getD_hd (L : List Nat) (j : Nat) : L.getD j 0 = hd (L.drop j) := (hd_drop L j).symm
end Go.Proofs.YtfelcneedpndiaaDoor
