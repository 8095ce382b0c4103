/-
  The document's answer of layer 15: Moved and Reverse, and the law's Valid, as contracts of their calls.
-/
import Derived.Test.YtfelcneedpndiaaDoorId
namespace Go.Proofs.YtfelcneedpndiaaDoor
open Go.RowKit Go.Lib

/-- A rune moved, if it lies from one on up to one. -/
def mvR (a z : Nat) (b : Int) (r : Nat) : Nat := if a ≤ r ∧ r ≤ z then ((r : Int) + b).toNat else r
theorem take_map_step {L : List Nat} {f : Nat → Nat} {k : Nat} (hk : k < L.length) : ((L.take k).map f ++ L.drop k).getD k 0 = L.getD k 0 ∧ ((L.take k).map f ++ L.drop k).set k (f (L.getD k 0)) = (L.take (k + 1)).map f ++ L.drop (k + 1) := by
  have e1 : ((L.take k).map f).length = k := by rw [List.length_map, List.length_take]; omega
  have g : L.getD k 0 = L[k] := by rw [List.getD_eq_getElem?_getD, List.getElem?_eq_getElem hk]; rfl
  refine ⟨?_, ?_⟩
  · rw [List.getD_eq_getElem?_getD, List.getElem?_append_right (by omega), e1, Nat.sub_self, List.getElem?_drop, Nat.add_zero, List.getD_eq_getElem?_getD]
  · rw [g, List.set_append_right _ _ (by omega), e1, Nat.sub_self, List.drop_eq_getElem_cons hk, List.set_cons_zero, List.take_succ_eq_append_getElem hk, List.map_append, List.append_assoc]
    rfl
theorem set_map_rc (L : List Nat) (k r : Nat) : (L.map rc).set k (rc r) = (L.set k r).map rc := by rw [List.map_set]
set_option linter.unusedVariables false in
set_option linter.unusedSimpArgs false in
set_option maxRecDepth 100000 in
set_option maxHeartbeats 4000000 in
/-- Valid: any string (of up to 2^44 bytes). -/
theorem lvalid_any (s : ByteArray) (w : World) (hs : s.size ≤ 17592186044416) :
    Calls Tryd.prog 10 #[.string s] w (RetTx (enc (rnS s)) w) := by
  have CR := Lib.hid (fun W => runes_any s W hs)
  have LE := rnS_le s
  generalize rnS s = L at *
  go_enter Tryd.func10, Tryd.ntmps10
  go_wp2_with (first
    | (go_at_call 19; (with_reducible refine (CR.out _).mono ?_); rintro e w1 ⟨v1, rfl, R1, hb1⟩; have CT := Lib.hid (fun W (hW : Below w1.heap.size w1 W) => textR_any _ v1 L W (by omega) (R1.below hW)); clear R1)
    | (go_at_call 18; (with_reducible refine (CT.out _ (by go_grown)).mono ?_); rintro e w2 ⟨rfl, hb2⟩))
  go_ret
  exact ⟨rfl, bstep hb1 hb2⟩
end Go.Proofs.YtfelcneedpndiaaDoor
