/-
  The document's answer of layer 15: Moved and Reverse, and the law's Valid, as contracts of their calls.
-/
import Derived.Test.YtfelcneedpndiaaGreatDoorId
namespace Go.Proofs.YtfelcneedpndiaaGreatDoor
open Go.RowKit Go.Lib

/-- A rune moved, if it lies from one on up to one. -/
def mvR (a z : Nat) (b : Int) (r : Nat) : Nat := if a ≤ r ∧ r ≤ z then ((r : Int) + b).toNat else r
theorem take_map_step {L : List Nat} {f : Nat → Nat} {k : Nat} (hk : k < L.length) : ((L.take k).map f ++ L.drop k).getD k 0 = L.getD k 0 ∧ ((L.take k).map f ++ L.drop k).set k (f (L.getD k 0)) = (L.take (k + 1)).map f ++ L.drop (k + 1) := by
  have e1 : ((L.take k).map f).length = k := by rw [List.length_map, List.length_take]; omega
  have g : L.getD k 0 = L[k] := by rw [List.getD_eq_getElem?_getD, List.getElem?_eq_getElem hk]; rfl
  refine ⟨?_, ?_⟩
  · rw [List.getD_eq_getElem?_getD, List.getElem?_append_right (by omega), e1, Nat.sub_self, List.getElem?_drop, Nat.add_zero, List.getD_eq_getElem?_getD]
  · rw [g, List.set_append_right _ _ (by omega), e1, Nat.sub_self, List.drop_eq_getElem_cons hk, List.set_cons_zero, List.take_succ_eq_append_getElem hk, List.map_append, List.append_assoc]
    rfl
theorem set_map_rc (L : List Nat) (k r : Nat) : (L.map rc).set k (rc r) = (L.set k r).map rc := by rw [List.map_set]
end Go.Proofs.YtfelcneedpndiaaGreatDoor
