/-
  Small things for the walks of MomentBetween and MomentMonthly.
-/
import Derived.Test.YtelgnfkjldghdaaMe
namespace Go.Proofs.Ytelgnfkjldghdaa
open Go.RowKit

theorem region_via {P : Program} {id : Nat} {ops : Array Oper} {b : Bool} {Q : Exit → Act → World → Prop} {a : Act} {w : World} (R : Act → Act → World → Prop) (h : (Code.region id ops b).wp P (fun e a' w' => match e with | .normal => R a a' w' | _ => False) a w) (m : ∀ a' w', R a a' w' → Q .normal a' w') : (Code.region id ops b).wp P Q a w :=
  Code.wp_mono (fun e a' w' k => by cases e <;> first | exact m _ _ k | exact k.elim) h
theorem HoldsN.far6 {W : World} {g k : Nat} {y m d s : Int} {z : Bool} {o : Int} (H : HoldsN W k y m d s z o) (ne : k ≠ g) (v0 v1 v2 v3 v4 v5 : Value) : HoldsN ((((((W.setCell ⟨g, 0, none⟩ v0).setCell ⟨g, 1, none⟩ v1).setCell ⟨g, 2, none⟩ v2).setCell ⟨g, 3, none⟩ v3).setCell ⟨g, 4, none⟩ v4).setCell ⟨g, 5, none⟩ v5) k y m d s z o :=
  (((((H.far ne v0).far ne v1).far ne v2).far ne v3).far ne v4).far ne v5
theorem HoldsR.put5 {W : World} {g : Nat} {y m d s o : Int} {z z' : Bool} (H : HoldsR W g y m d s o z) : HoldsR (W.setCell ⟨g, 5, none⟩ (.bool z')) g y m d s o z' := by
  obtain ⟨⟨a0, a1, a2, a3, a4, a5⟩, ⟨b0, b1, b2, b3, b4, b5⟩, k⟩ := H
  simp [HoldsR, go_sem, *]
theorem HoldsR.put4 {W : World} {g : Nat} {y m d s o o' : Int} {z : Bool} (H : HoldsR W g y m d s o z) : HoldsR (W.setCell ⟨g, 4, none⟩ (.int .i64 o')) g y m d s o' z := by
  obtain ⟨⟨a0, a1, a2, a3, a4, a5⟩, ⟨b0, b1, b2, b3, b4, b5⟩, k⟩ := H
  simp [HoldsR, go_sem, *]
theorem ordI_cases8 (a b : Int) : (ordI a b = -1 ∧ a < b) ∨ (ordI a b = 0 ∧ a = b) ∨ (ordI a b = 1 ∧ b < a) := by
  unfold ordI
  split
  · exact .inl ⟨rfl, by assumption⟩
  · split
    · exact .inr (.inr ⟨rfl, by assumption⟩)
    · exact .inr (.inl ⟨rfl, by omega⟩)
end Go.Proofs.Ytelgnfkjldghdaa
