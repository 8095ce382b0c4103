/-
  Package moment: the moment of an instant (Of), one so many seconds or months later (Later, Months); the moments of the statements (Make, day): each as a contract of its call.
-/
import Derived.Test.YtkkddflclakphaaDoorMa
import Derived.Deep.DeepCutAuto
namespace Go.Proofs.YtkkddflclakphaaDoor
open Go.RowKit

/-- A moment as it is handed in -/
abbrev Rw (y m d s o : Int) (z : Bool) : Value := .agg #[.int .i64 y, .int .i64 m, .int .i64 d, .int .i64 s, .int .i64 o, .bool z]
def HoldsR (W : World) (g : Nat) (y m d s o : Int) (z : Bool) : Prop := (W.cell? ⟨g, 0, none⟩ = some (.int .i64 y) ∧ W.cell? ⟨g, 1, none⟩ = some (.int .i64 m) ∧ W.cell? ⟨g, 2, none⟩ = some (.int .i64 d) ∧ W.cell? ⟨g, 3, none⟩ = some (.int .i64 s) ∧ W.cell? ⟨g, 4, none⟩ = some (.int .i64 o) ∧ W.cell? ⟨g, 5, none⟩ = some (.bool z)) ∧ (W.frozen? ⟨g, 0, none⟩ = false ∧ W.frozen? ⟨g, 1, none⟩ = false ∧ W.frozen? ⟨g, 2, none⟩ = false ∧ W.frozen? ⟨g, 3, none⟩ = false ∧ W.frozen? ⟨g, 4, none⟩ = false ∧ W.frozen? ⟨g, 5, none⟩ = false) ∧ g < W.heap.size
theorem HoldsR.below {W W' : World} {g : Nat} {y m d s o : Int} {z : Bool} (H : HoldsR W g y m d s o z) (hb : Below W.heap.size W W') : HoldsR W' g y m d s o z := by
  obtain ⟨⟨a0, a1, a2, a3, a4, a5⟩, ⟨b0, b1, b2, b3, b4, b5⟩, k⟩ := H
  obtain ⟨hc, hf⟩ := bcell hb
  exact ⟨⟨(hc _ _ k).trans a0, (hc _ _ k).trans a1, (hc _ _ k).trans a2, (hc _ _ k).trans a3, (hc _ _ k).trans a4, (hc _ _ k).trans a5⟩, ⟨(hf _ _ k).trans b0, (hf _ _ k).trans b1, (hf _ _ k).trans b2, (hf _ _ k).trans b3, (hf _ _ k).trans b4, (hf _ _ k).trans b5⟩, Nat.lt_of_lt_of_le k hb.size⟩
theorem HoldsR.alloc {W : World} {g : Nat} {y m d s o : Int} {z : Bool} (H : HoldsR W g y m d s o z) (x : Obj) : HoldsR (W.alloc x) g y m d s o z := H.below ((Below.refl _ _).alloc (Nat.le_refl _) x)
theorem HoldsR.drew {W : World} {g : Nat} {y m d s o : Int} {z : Bool} (H : HoldsR W g y m d s o z) : HoldsR W.drew g y m d s o z := H
theorem HoldsR.new {W : World} {g t : Nat} {y m d s o : Int} {z : Bool} (hg : g = W.heap.size) : HoldsR (W.alloc (.cells #[.int .i64 y, .int .i64 m, .int .i64 d, .int .i64 s, .int .i64 o, .bool z] t)) g y m d s o z := by
  subst hg
  simp [HoldsR, go_sem]
theorem HoldsR.far {W : World} {g : Nat} {y m d s o : Int} {z : Bool} (H : HoldsR W g y m d s o z) {p : Addr} (hp : g ≠ p.block) (u : Value) : HoldsR (W.setCell p u) g y m d s o z := by
  obtain ⟨⟨a0, a1, a2, a3, a4, a5⟩, ⟨b0, b1, b2, b3, b4, b5⟩, k⟩ := H
  have n := Below.heap_setCell W p u g hp
  exact ⟨⟨(World.cell?_of_block (a := ⟨g, 0, none⟩) n).trans a0, (World.cell?_of_block (a := ⟨g, 1, none⟩) n).trans a1, (World.cell?_of_block (a := ⟨g, 2, none⟩) n).trans a2, (World.cell?_of_block (a := ⟨g, 3, none⟩) n).trans a3, (World.cell?_of_block (a := ⟨g, 4, none⟩) n).trans a4, (World.cell?_of_block (a := ⟨g, 5, none⟩) n).trans a5⟩, ⟨(World.frozen?_of_block (a := ⟨g, 0, none⟩) n).trans b0, (World.frozen?_of_block (a := ⟨g, 1, none⟩) n).trans b1, (World.frozen?_of_block (a := ⟨g, 2, none⟩) n).trans b2, (World.frozen?_of_block (a := ⟨g, 3, none⟩) n).trans b3, (World.frozen?_of_block (a := ⟨g, 4, none⟩) n).trans b4, (World.frozen?_of_block (a := ⟨g, 5, none⟩) n).trans b5⟩, by simpa using k⟩
theorem keepR {w w' : World} {g : Nat} {y m d s o : Int} {z : Bool} (H : HoldsR w' g y m d s o z) (B : Below w.heap.size w w') : w'.cell? ⟨g, 0, none⟩ = some (.int .i64 y) ∧ w'.cell? ⟨g, 1, none⟩ = some (.int .i64 m) ∧ w'.cell? ⟨g, 2, none⟩ = some (.int .i64 d) ∧ w'.cell? ⟨g, 3, none⟩ = some (.int .i64 s) ∧ w'.cell? ⟨g, 4, none⟩ = some (.int .i64 o) ∧ w'.cell? ⟨g, 5, none⟩ = some (.bool z) ∧ g < w'.heap.size ∧ Below w.heap.size w w' :=
  ⟨H.1.1, H.1.2.1, H.1.2.2.1, H.1.2.2.2.1, H.1.2.2.2.2.1, H.1.2.2.2.2.2, H.2.2, B⟩
theorem far6 {W : World} {g k : Nat} {y m d s o : Int} {z : Bool} (H : HoldsR W k y m d s o z) (ne : k ≠ g) (v0 v1 v2 v3 v4 v5 : Value) : HoldsR ((((((W.setCell ⟨g, 0, none⟩ v0).setCell ⟨g, 1, none⟩ v1).setCell ⟨g, 2, none⟩ v2).setCell ⟨g, 3, none⟩ v3).setCell ⟨g, 4, none⟩ v4).setCell ⟨g, 5, none⟩ v5) k y m d s o z :=
  (((((H.far ne v0).far ne v1).far ne v2).far ne v3).far ne v4).far ne v5

end Go.Proofs.YtkkddflclakphaaDoor
