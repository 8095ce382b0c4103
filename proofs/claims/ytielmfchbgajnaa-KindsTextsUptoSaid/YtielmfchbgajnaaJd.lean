/-
  Types held against one another: hold, where nothing is in them, or their kinds differ.
-/
import Derived.Test.YtielmfchbgajnaaJc
import Derived.RegionTactic
import Derived.Deep.RegionHeld3
import Derived.Deep.DeepCutAuto
namespace Go.Proofs.Ytielmfchbgajnaa
open Go.RowKit

theorem cellN {w : World} {g o : Nat} (h : g < w.heap.size) (x y : Obj) : (w.alloc x).cell? ⟨g, o, none⟩ = (w.alloc y).cell? ⟨g, o, none⟩ :=
  (((Below.refl w.heap.size w).alloc (Nat.le_refl _) x).cell (p := ⟨g, o, none⟩) h).trans (((Below.refl w.heap.size w).alloc (Nat.le_refl _) y).cell (p := ⟨g, o, none⟩) h).symm
theorem cellS {w : World} {g i k : Nat} (n : i ≠ g) (o : Nat) (v : Value) : (w.setCell ⟨g, o, none⟩ v).cell? ⟨i, k, none⟩ = w.cell? ⟨i, k, none⟩ :=
  World.cell?_of_block (a := ⟨i, k, none⟩) (RowKit.Below.heap_setCell _ _ _ _ n)
section
variable {w w' : World} {g0 o0 o1 o2 : Nat} {v0 v1 v2 : Value}
theorem keep3 (h : w.cell? ⟨g0, o0, none⟩ = some v0 ∧ w.cell? ⟨g0, o1, none⟩ = some v1 ∧ w.cell? ⟨g0, o2, none⟩ = some v2) (hb : Below w.heap.size w w') : w'.cell? ⟨g0, o0, none⟩ = some v0 ∧ w'.cell? ⟨g0, o1, none⟩ = some v1 ∧ w'.cell? ⟨g0, o2, none⟩ = some v2 :=
  ⟨cell_below (h.1) hb, cell_below (h.2.1) hb, cell_below (h.2.2) hb⟩
theorem keep3d (h : w.cell? ⟨g0, o0, none⟩ = some v0 ∧ w.cell? ⟨g0, o1, none⟩ = some v1 ∧ w.cell? ⟨g0, o2, none⟩ = some v2) : w.drew.cell? ⟨g0, o0, none⟩ = some v0 ∧ w.drew.cell? ⟨g0, o1, none⟩ = some v1 ∧ w.drew.cell? ⟨g0, o2, none⟩ = some v2 := h
theorem keep3u (h : w.drew.cell? ⟨g0, o0, none⟩ = some v0 ∧ w.drew.cell? ⟨g0, o1, none⟩ = some v1 ∧ w.drew.cell? ⟨g0, o2, none⟩ = some v2) : w.cell? ⟨g0, o0, none⟩ = some v0 ∧ w.cell? ⟨g0, o1, none⟩ = some v1 ∧ w.cell? ⟨g0, o2, none⟩ = some v2 := h
theorem keep3a (h : w.cell? ⟨g0, o0, none⟩ = some v0 ∧ w.cell? ⟨g0, o1, none⟩ = some v1 ∧ w.cell? ⟨g0, o2, none⟩ = some v2) (o : Obj) : (w.alloc o).cell? ⟨g0, o0, none⟩ = some v0 ∧ (w.alloc o).cell? ⟨g0, o1, none⟩ = some v1 ∧ (w.alloc o).cell? ⟨g0, o2, none⟩ = some v2 := keep3 h ((Below.refl _ _).alloc (Nat.le_refl _) o)
theorem keep3n {x : Obj} (h : (w.alloc x).cell? ⟨g0, o0, none⟩ = some v0 ∧ (w.alloc x).cell? ⟨g0, o1, none⟩ = some v1 ∧ (w.alloc x).cell? ⟨g0, o2, none⟩ = some v2) (y : Obj) (n0 : g0 < w.heap.size) : (w.alloc y).cell? ⟨g0, o0, none⟩ = some v0 ∧ (w.alloc y).cell? ⟨g0, o1, none⟩ = some v1 ∧ (w.alloc y).cell? ⟨g0, o2, none⟩ = some v2 :=
  ⟨(cellN n0 y x).trans (h.1), (cellN n0 y x).trans (h.2.1), (cellN n0 y x).trans (h.2.2)⟩
theorem keep3s (h : w.cell? ⟨g0, o0, none⟩ = some v0 ∧ w.cell? ⟨g0, o1, none⟩ = some v1 ∧ w.cell? ⟨g0, o2, none⟩ = some v2) {g o : Nat} (n0 : g0 ≠ g) (v : Value) : (w.setCell ⟨g, o, none⟩ v).cell? ⟨g0, o0, none⟩ = some v0 ∧ (w.setCell ⟨g, o, none⟩ v).cell? ⟨g0, o1, none⟩ = some v1 ∧ (w.setCell ⟨g, o, none⟩ v).cell? ⟨g0, o2, none⟩ = some v2 :=
  ⟨(cellS n0 o v).trans (h.1), (cellS n0 o v).trans (h.2.1), (cellS n0 o v).trans (h.2.2)⟩
end
section
variable {w w' : World} {g0 g1 o0 o1 o2 o3 o4 o5 : Nat} {v0 v1 v2 v3 v4 v5 : Value}
theorem keep33 (h : w.cell? ⟨g0, o0, none⟩ = some v0 ∧ w.cell? ⟨g0, o1, none⟩ = some v1 ∧ w.cell? ⟨g0, o2, none⟩ = some v2 ∧ w.cell? ⟨g1, o3, none⟩ = some v3 ∧ w.cell? ⟨g1, o4, none⟩ = some v4 ∧ w.cell? ⟨g1, o5, none⟩ = some v5) (hb : Below w.heap.size w w') : w'.cell? ⟨g0, o0, none⟩ = some v0 ∧ w'.cell? ⟨g0, o1, none⟩ = some v1 ∧ w'.cell? ⟨g0, o2, none⟩ = some v2 ∧ w'.cell? ⟨g1, o3, none⟩ = some v3 ∧ w'.cell? ⟨g1, o4, none⟩ = some v4 ∧ w'.cell? ⟨g1, o5, none⟩ = some v5 :=
  ⟨cell_below (h.1) hb, cell_below (h.2.1) hb, cell_below (h.2.2.1) hb, cell_below (h.2.2.2.1) hb, cell_below (h.2.2.2.2.1) hb, cell_below (h.2.2.2.2.2) hb⟩
theorem keep33d (h : w.cell? ⟨g0, o0, none⟩ = some v0 ∧ w.cell? ⟨g0, o1, none⟩ = some v1 ∧ w.cell? ⟨g0, o2, none⟩ = some v2 ∧ w.cell? ⟨g1, o3, none⟩ = some v3 ∧ w.cell? ⟨g1, o4, none⟩ = some v4 ∧ w.cell? ⟨g1, o5, none⟩ = some v5) : w.drew.cell? ⟨g0, o0, none⟩ = some v0 ∧ w.drew.cell? ⟨g0, o1, none⟩ = some v1 ∧ w.drew.cell? ⟨g0, o2, none⟩ = some v2 ∧ w.drew.cell? ⟨g1, o3, none⟩ = some v3 ∧ w.drew.cell? ⟨g1, o4, none⟩ = some v4 ∧ w.drew.cell? ⟨g1, o5, none⟩ = some v5 := h
theorem keep33u (h : w.drew.cell? ⟨g0, o0, none⟩ = some v0 ∧ w.drew.cell? ⟨g0, o1, none⟩ = some v1 ∧ w.drew.cell? ⟨g0, o2, none⟩ = some v2 ∧ w.drew.cell? ⟨g1, o3, none⟩ = some v3 ∧ w.drew.cell? ⟨g1, o4, none⟩ = some v4 ∧ w.drew.cell? ⟨g1, o5, none⟩ = some v5) : w.cell? ⟨g0, o0, none⟩ = some v0 ∧ w.cell? ⟨g0, o1, none⟩ = some v1 ∧ w.cell? ⟨g0, o2, none⟩ = some v2 ∧ w.cell? ⟨g1, o3, none⟩ = some v3 ∧ w.cell? ⟨g1, o4, none⟩ = some v4 ∧ w.cell? ⟨g1, o5, none⟩ = some v5 := h
theorem keep33a (h : w.cell? ⟨g0, o0, none⟩ = some v0 ∧ w.cell? ⟨g0, o1, none⟩ = some v1 ∧ w.cell? ⟨g0, o2, none⟩ = some v2 ∧ w.cell? ⟨g1, o3, none⟩ = some v3 ∧ w.cell? ⟨g1, o4, none⟩ = some v4 ∧ w.cell? ⟨g1, o5, none⟩ = some v5) (o : Obj) : (w.alloc o).cell? ⟨g0, o0, none⟩ = some v0 ∧ (w.alloc o).cell? ⟨g0, o1, none⟩ = some v1 ∧ (w.alloc o).cell? ⟨g0, o2, none⟩ = some v2 ∧ (w.alloc o).cell? ⟨g1, o3, none⟩ = some v3 ∧ (w.alloc o).cell? ⟨g1, o4, none⟩ = some v4 ∧ (w.alloc o).cell? ⟨g1, o5, none⟩ = some v5 := keep33 h ((Below.refl _ _).alloc (Nat.le_refl _) o)
theorem keep33n {x : Obj} (h : (w.alloc x).cell? ⟨g0, o0, none⟩ = some v0 ∧ (w.alloc x).cell? ⟨g0, o1, none⟩ = some v1 ∧ (w.alloc x).cell? ⟨g0, o2, none⟩ = some v2 ∧ (w.alloc x).cell? ⟨g1, o3, none⟩ = some v3 ∧ (w.alloc x).cell? ⟨g1, o4, none⟩ = some v4 ∧ (w.alloc x).cell? ⟨g1, o5, none⟩ = some v5) (y : Obj) (n0 : g0 < w.heap.size) (n1 : g1 < w.heap.size) : (w.alloc y).cell? ⟨g0, o0, none⟩ = some v0 ∧ (w.alloc y).cell? ⟨g0, o1, none⟩ = some v1 ∧ (w.alloc y).cell? ⟨g0, o2, none⟩ = some v2 ∧ (w.alloc y).cell? ⟨g1, o3, none⟩ = some v3 ∧ (w.alloc y).cell? ⟨g1, o4, none⟩ = some v4 ∧ (w.alloc y).cell? ⟨g1, o5, none⟩ = some v5 :=
  ⟨(cellN n0 y x).trans (h.1), (cellN n0 y x).trans (h.2.1), (cellN n0 y x).trans (h.2.2.1), (cellN n1 y x).trans (h.2.2.2.1), (cellN n1 y x).trans (h.2.2.2.2.1), (cellN n1 y x).trans (h.2.2.2.2.2)⟩
theorem keep33s (h : w.cell? ⟨g0, o0, none⟩ = some v0 ∧ w.cell? ⟨g0, o1, none⟩ = some v1 ∧ w.cell? ⟨g0, o2, none⟩ = some v2 ∧ w.cell? ⟨g1, o3, none⟩ = some v3 ∧ w.cell? ⟨g1, o4, none⟩ = some v4 ∧ w.cell? ⟨g1, o5, none⟩ = some v5) {g o : Nat} (n0 : g0 ≠ g) (n1 : g1 ≠ g) (v : Value) : (w.setCell ⟨g, o, none⟩ v).cell? ⟨g0, o0, none⟩ = some v0 ∧ (w.setCell ⟨g, o, none⟩ v).cell? ⟨g0, o1, none⟩ = some v1 ∧ (w.setCell ⟨g, o, none⟩ v).cell? ⟨g0, o2, none⟩ = some v2 ∧ (w.setCell ⟨g, o, none⟩ v).cell? ⟨g1, o3, none⟩ = some v3 ∧ (w.setCell ⟨g, o, none⟩ v).cell? ⟨g1, o4, none⟩ = some v4 ∧ (w.setCell ⟨g, o, none⟩ v).cell? ⟨g1, o5, none⟩ = some v5 :=
  ⟨(cellS n0 o v).trans (h.1), (cellS n0 o v).trans (h.2.1), (cellS n0 o v).trans (h.2.2.1), (cellS n1 o v).trans (h.2.2.2.1), (cellS n1 o v).trans (h.2.2.2.2.1), (cellS n1 o v).trans (h.2.2.2.2.2)⟩
end
section
variable {w w' : World} {g0 g1 g2 o0 o1 o2 o3 o4 o5 o6 o7 o8 o9 o10 : Nat} {v0 v1 v2 v3 v4 v5 v6 v7 v8 v9 v10 : Value}
theorem keep335 (h : w.cell? ⟨g0, o0, none⟩ = some v0 ∧ w.cell? ⟨g0, o1, none⟩ = some v1 ∧ w.cell? ⟨g0, o2, none⟩ = some v2 ∧ w.cell? ⟨g1, o3, none⟩ = some v3 ∧ w.cell? ⟨g1, o4, none⟩ = some v4 ∧ w.cell? ⟨g1, o5, none⟩ = some v5 ∧ w.cell? ⟨g2, o6, none⟩ = some v6 ∧ w.cell? ⟨g2, o7, none⟩ = some v7 ∧ w.cell? ⟨g2, o8, none⟩ = some v8 ∧ w.cell? ⟨g2, o9, none⟩ = some v9 ∧ w.cell? ⟨g2, o10, none⟩ = some v10) (hb : Below w.heap.size w w') : w'.cell? ⟨g0, o0, none⟩ = some v0 ∧ w'.cell? ⟨g0, o1, none⟩ = some v1 ∧ w'.cell? ⟨g0, o2, none⟩ = some v2 ∧ w'.cell? ⟨g1, o3, none⟩ = some v3 ∧ w'.cell? ⟨g1, o4, none⟩ = some v4 ∧ w'.cell? ⟨g1, o5, none⟩ = some v5 ∧ w'.cell? ⟨g2, o6, none⟩ = some v6 ∧ w'.cell? ⟨g2, o7, none⟩ = some v7 ∧ w'.cell? ⟨g2, o8, none⟩ = some v8 ∧ w'.cell? ⟨g2, o9, none⟩ = some v9 ∧ w'.cell? ⟨g2, o10, none⟩ = some v10 :=
  ⟨cell_below (h.1) hb, cell_below (h.2.1) hb, cell_below (h.2.2.1) hb, cell_below (h.2.2.2.1) hb, cell_below (h.2.2.2.2.1) hb, cell_below (h.2.2.2.2.2.1) hb, cell_below (h.2.2.2.2.2.2.1) hb, cell_below (h.2.2.2.2.2.2.2.1) hb, cell_below (h.2.2.2.2.2.2.2.2.1) hb, cell_below (h.2.2.2.2.2.2.2.2.2.1) hb, cell_below (h.2.2.2.2.2.2.2.2.2.2) hb⟩
theorem keep335d (h : w.cell? ⟨g0, o0, none⟩ = some v0 ∧ w.cell? ⟨g0, o1, none⟩ = some v1 ∧ w.cell? ⟨g0, o2, none⟩ = some v2 ∧ w.cell? ⟨g1, o3, none⟩ = some v3 ∧ w.cell? ⟨g1, o4, none⟩ = some v4 ∧ w.cell? ⟨g1, o5, none⟩ = some v5 ∧ w.cell? ⟨g2, o6, none⟩ = some v6 ∧ w.cell? ⟨g2, o7, none⟩ = some v7 ∧ w.cell? ⟨g2, o8, none⟩ = some v8 ∧ w.cell? ⟨g2, o9, none⟩ = some v9 ∧ w.cell? ⟨g2, o10, none⟩ = some v10) : w.drew.cell? ⟨g0, o0, none⟩ = some v0 ∧ w.drew.cell? ⟨g0, o1, none⟩ = some v1 ∧ w.drew.cell? ⟨g0, o2, none⟩ = some v2 ∧ w.drew.cell? ⟨g1, o3, none⟩ = some v3 ∧ w.drew.cell? ⟨g1, o4, none⟩ = some v4 ∧ w.drew.cell? ⟨g1, o5, none⟩ = some v5 ∧ w.drew.cell? ⟨g2, o6, none⟩ = some v6 ∧ w.drew.cell? ⟨g2, o7, none⟩ = some v7 ∧ w.drew.cell? ⟨g2, o8, none⟩ = some v8 ∧ w.drew.cell? ⟨g2, o9, none⟩ = some v9 ∧ w.drew.cell? ⟨g2, o10, none⟩ = some v10 := h
theorem keep335u (h : w.drew.cell? ⟨g0, o0, none⟩ = some v0 ∧ w.drew.cell? ⟨g0, o1, none⟩ = some v1 ∧ w.drew.cell? ⟨g0, o2, none⟩ = some v2 ∧ w.drew.cell? ⟨g1, o3, none⟩ = some v3 ∧ w.drew.cell? ⟨g1, o4, none⟩ = some v4 ∧ w.drew.cell? ⟨g1, o5, none⟩ = some v5 ∧ w.drew.cell? ⟨g2, o6, none⟩ = some v6 ∧ w.drew.cell? ⟨g2, o7, none⟩ = some v7 ∧ w.drew.cell? ⟨g2, o8, none⟩ = some v8 ∧ w.drew.cell? ⟨g2, o9, none⟩ = some v9 ∧ w.drew.cell? ⟨g2, o10, none⟩ = some v10) : w.cell? ⟨g0, o0, none⟩ = some v0 ∧ w.cell? ⟨g0, o1, none⟩ = some v1 ∧ w.cell? ⟨g0, o2, none⟩ = some v2 ∧ w.cell? ⟨g1, o3, none⟩ = some v3 ∧ w.cell? ⟨g1, o4, none⟩ = some v4 ∧ w.cell? ⟨g1, o5, none⟩ = some v5 ∧ w.cell? ⟨g2, o6, none⟩ = some v6 ∧ w.cell? ⟨g2, o7, none⟩ = some v7 ∧ w.cell? ⟨g2, o8, none⟩ = some v8 ∧ w.cell? ⟨g2, o9, none⟩ = some v9 ∧ w.cell? ⟨g2, o10, none⟩ = some v10 := h
theorem keep335a (h : w.cell? ⟨g0, o0, none⟩ = some v0 ∧ w.cell? ⟨g0, o1, none⟩ = some v1 ∧ w.cell? ⟨g0, o2, none⟩ = some v2 ∧ w.cell? ⟨g1, o3, none⟩ = some v3 ∧ w.cell? ⟨g1, o4, none⟩ = some v4 ∧ w.cell? ⟨g1, o5, none⟩ = some v5 ∧ w.cell? ⟨g2, o6, none⟩ = some v6 ∧ w.cell? ⟨g2, o7, none⟩ = some v7 ∧ w.cell? ⟨g2, o8, none⟩ = some v8 ∧ w.cell? ⟨g2, o9, none⟩ = some v9 ∧ w.cell? ⟨g2, o10, none⟩ = some v10) (o : Obj) : (w.alloc o).cell? ⟨g0, o0, none⟩ = some v0 ∧ (w.alloc o).cell? ⟨g0, o1, none⟩ = some v1 ∧ (w.alloc o).cell? ⟨g0, o2, none⟩ = some v2 ∧ (w.alloc o).cell? ⟨g1, o3, none⟩ = some v3 ∧ (w.alloc o).cell? ⟨g1, o4, none⟩ = some v4 ∧ (w.alloc o).cell? ⟨g1, o5, none⟩ = some v5 ∧ (w.alloc o).cell? ⟨g2, o6, none⟩ = some v6 ∧ (w.alloc o).cell? ⟨g2, o7, none⟩ = some v7 ∧ (w.alloc o).cell? ⟨g2, o8, none⟩ = some v8 ∧ (w.alloc o).cell? ⟨g2, o9, none⟩ = some v9 ∧ (w.alloc o).cell? ⟨g2, o10, none⟩ = some v10 := keep335 h ((Below.refl _ _).alloc (Nat.le_refl _) o)
theorem keep335n {x : Obj} (h : (w.alloc x).cell? ⟨g0, o0, none⟩ = some v0 ∧ (w.alloc x).cell? ⟨g0, o1, none⟩ = some v1 ∧ (w.alloc x).cell? ⟨g0, o2, none⟩ = some v2 ∧ (w.alloc x).cell? ⟨g1, o3, none⟩ = some v3 ∧ (w.alloc x).cell? ⟨g1, o4, none⟩ = some v4 ∧ (w.alloc x).cell? ⟨g1, o5, none⟩ = some v5 ∧ (w.alloc x).cell? ⟨g2, o6, none⟩ = some v6 ∧ (w.alloc x).cell? ⟨g2, o7, none⟩ = some v7 ∧ (w.alloc x).cell? ⟨g2, o8, none⟩ = some v8 ∧ (w.alloc x).cell? ⟨g2, o9, none⟩ = some v9 ∧ (w.alloc x).cell? ⟨g2, o10, none⟩ = some v10) (y : Obj) (n0 : g0 < w.heap.size) (n1 : g1 < w.heap.size) (n2 : g2 < w.heap.size) : (w.alloc y).cell? ⟨g0, o0, none⟩ = some v0 ∧ (w.alloc y).cell? ⟨g0, o1, none⟩ = some v1 ∧ (w.alloc y).cell? ⟨g0, o2, none⟩ = some v2 ∧ (w.alloc y).cell? ⟨g1, o3, none⟩ = some v3 ∧ (w.alloc y).cell? ⟨g1, o4, none⟩ = some v4 ∧ (w.alloc y).cell? ⟨g1, o5, none⟩ = some v5 ∧ (w.alloc y).cell? ⟨g2, o6, none⟩ = some v6 ∧ (w.alloc y).cell? ⟨g2, o7, none⟩ = some v7 ∧ (w.alloc y).cell? ⟨g2, o8, none⟩ = some v8 ∧ (w.alloc y).cell? ⟨g2, o9, none⟩ = some v9 ∧ (w.alloc y).cell? ⟨g2, o10, none⟩ = some v10 :=
  ⟨(cellN n0 y x).trans (h.1), (cellN n0 y x).trans (h.2.1), (cellN n0 y x).trans (h.2.2.1), (cellN n1 y x).trans (h.2.2.2.1), (cellN n1 y x).trans (h.2.2.2.2.1), (cellN n1 y x).trans (h.2.2.2.2.2.1), (cellN n2 y x).trans (h.2.2.2.2.2.2.1), (cellN n2 y x).trans (h.2.2.2.2.2.2.2.1), (cellN n2 y x).trans (h.2.2.2.2.2.2.2.2.1), (cellN n2 y x).trans (h.2.2.2.2.2.2.2.2.2.1), (cellN n2 y x).trans (h.2.2.2.2.2.2.2.2.2.2)⟩
theorem keep335s (h : w.cell? ⟨g0, o0, none⟩ = some v0 ∧ w.cell? ⟨g0, o1, none⟩ = some v1 ∧ w.cell? ⟨g0, o2, none⟩ = some v2 ∧ w.cell? ⟨g1, o3, none⟩ = some v3 ∧ w.cell? ⟨g1, o4, none⟩ = some v4 ∧ w.cell? ⟨g1, o5, none⟩ = some v5 ∧ w.cell? ⟨g2, o6, none⟩ = some v6 ∧ w.cell? ⟨g2, o7, none⟩ = some v7 ∧ w.cell? ⟨g2, o8, none⟩ = some v8 ∧ w.cell? ⟨g2, o9, none⟩ = some v9 ∧ w.cell? ⟨g2, o10, none⟩ = some v10) {g o : Nat} (n0 : g0 ≠ g) (n1 : g1 ≠ g) (n2 : g2 ≠ g) (v : Value) : (w.setCell ⟨g, o, none⟩ v).cell? ⟨g0, o0, none⟩ = some v0 ∧ (w.setCell ⟨g, o, none⟩ v).cell? ⟨g0, o1, none⟩ = some v1 ∧ (w.setCell ⟨g, o, none⟩ v).cell? ⟨g0, o2, none⟩ = some v2 ∧ (w.setCell ⟨g, o, none⟩ v).cell? ⟨g1, o3, none⟩ = some v3 ∧ (w.setCell ⟨g, o, none⟩ v).cell? ⟨g1, o4, none⟩ = some v4 ∧ (w.setCell ⟨g, o, none⟩ v).cell? ⟨g1, o5, none⟩ = some v5 ∧ (w.setCell ⟨g, o, none⟩ v).cell? ⟨g2, o6, none⟩ = some v6 ∧ (w.setCell ⟨g, o, none⟩ v).cell? ⟨g2, o7, none⟩ = some v7 ∧ (w.setCell ⟨g, o, none⟩ v).cell? ⟨g2, o8, none⟩ = some v8 ∧ (w.setCell ⟨g, o, none⟩ v).cell? ⟨g2, o9, none⟩ = some v9 ∧ (w.setCell ⟨g, o, none⟩ v).cell? ⟨g2, o10, none⟩ = some v10 :=
  ⟨(cellS n0 o v).trans (h.1), (cellS n0 o v).trans (h.2.1), (cellS n0 o v).trans (h.2.2.1), (cellS n1 o v).trans (h.2.2.2.1), (cellS n1 o v).trans (h.2.2.2.2.1), (cellS n1 o v).trans (h.2.2.2.2.2.1), (cellS n2 o v).trans (h.2.2.2.2.2.2.1), (cellS n2 o v).trans (h.2.2.2.2.2.2.2.1), (cellS n2 o v).trans (h.2.2.2.2.2.2.2.2.1), (cellS n2 o v).trans (h.2.2.2.2.2.2.2.2.2.1), (cellS n2 o v).trans (h.2.2.2.2.2.2.2.2.2.2)⟩
end
/-- What judge answers leads to the verdict. -/
theorem judge_lies {S : Nat → Prop} {w : World} {t u o : T} {k : Int} {a : Option Addr} {n c : Nat} {b : Option Addr} {m d : Nat} {k' : Int} {a' : Option Addr} {n' c' : Nat} {b' : Option Addr} {m' d' : Nat} {k2 : Int} {a2 : Option Addr} {n2 c2 : Nat} {b2 : Option Addr} {m2 d2 : Nat} (p q : Bool)
    (h : Lies S w (TV k a n c b m d) t) (h' : Lies S w (TV k' a' n' c' b' m' d') u) (h2 : Lies S w (TV k2 a2 n2 c2 b2 m2 d2) o) :
    ∃ (k3 : Int) (a3 : Option Addr) (n3 c3 : Nat) (b3 : Option Addr) (m3 d3 : Nat), pick3 p q (VV p q k a n c b m d) (VV p q k' a' n' c' b' m' d') (VV p q k2 a2 n2 c2 b2 m2 d2) = VV (judgeV t u p q o).there (judgeV t u p q o).back k3 a3 n3 c3 b3 m3 d3 ∧ Lies S w (TV k3 a3 n3 c3 b3 m3 d3) (judgeV t u p q o).join := by
  cases p
  · cases q
    · exact ⟨_, _, _, _, _, _, _, rfl, h2⟩
    · exact ⟨_, _, _, _, _, _, _, rfl, h⟩
  · exact ⟨_, _, _, _, _, _, _, rfl, h'⟩
theorem judge_any {S : Nat → Prop} {w : World} {t u o : T} {k : Int} {a : Option Addr} {n c : Nat} {b : Option Addr} {m d : Nat} {k' : Int} {a' : Option Addr} {n' c' : Nat} {b' : Option Addr} {m' d' : Nat} {k2 : Int} {a2 : Option Addr} {n2 c2 : Nat} {b2 : Option Addr} {m2 d2 : Nat} (p q : Bool)
    (h : Lies S w (TV k a n c b m d) t) (h' : Lies S w (TV k' a' n' c' b' m' d') u) (h2 : Lies S w (TV k2 a2 n2 c2 b2 m2 d2) o) :
    Calls Try.prog 48 #[TV k a n c b m d, TV k' a' n' c' b' m' d', .bool p, .bool q, TV k2 a2 n2 c2 b2 m2 d2] w (RetV S (judgeV t u p q o) w) := by
  obtain ⟨k3, a3, n3, c3, b3, m3, d3, e3, L3⟩ := judge_lies p q h h' h2
  refine (judge_walk _ _ _ _ _ _ _ _ _ _ _ _ _ _ _ _ _ _ _ _ _ _ _ _).mono ?_
  rintro e w' ⟨rfl, hb⟩
  exact ⟨k3, a3, n3, c3, b3, m3, d3, by rw [e3], L3.on hb, hb⟩
set_option maxRecDepth 100000 in
theorem hold_differ (t u : T) (S : Nat → Prop) (w : World) (k : Int) (a : Option Addr) (n c : Nat) (b : Option Addr) (m d : Nat) (k' : Int) (a' : Option Addr) (n' c' : Nat) (b' : Option Addr) (m' d' : Nat) (h : Lies S w (TV k a n c b m d) t) (h' : Lies S w (TV k' a' n' c' b' m' d') u) (hne : k ≠ k') :
    Calls Try.prog 34 #[TV k a n c b m d, TV k' a' n' c' b' m' d'] w (RetV (Sn S w) (judgeV t u (goesB k k') (goesB k' k) (T.of 14)) w) := by
  have G1 := Lib.hid (goes_walk k k')
  have G2 := Lib.hid (goes_walk k' k)
  have H1 := Lib.hid h
  have H2 := Lib.hid h'
  have hk : (k == k') = false := beq_eq_false_iff_ne.2 hne
  have IO : I64 14 := ⟨by decide, by decide⟩
  obtain ⟨k3, a3, n3, c3, b3, m3, d3, e3, L3⟩ := judge_lies (goesB k k') (goesB k' k) h h' (lies_of (S := S) (w := w) IO)
  have J := Lib.hid (fun W => e3 ▸ judge_walk k a n c b m d k' a' n' c' b' m' d' (goesB k k') (goesB k' k) 14 none 0 0 none 0 0 W)
  have HL := Lib.hid L3
  clear h h' hne e3 L3 IO
  unfold goesB at J HL ⊢
  generalize (k == 1 || k' == 14) = p at *
  generalize (k' == 1 || k == 14) = q at *
  go_enter Try.func34, Try.ntmps34
  go_wp2
  go_region_held3 (fun w' => w'.cell? ⟨w.heap.size, 0, none⟩ = some (.int .i64 k) ∧ w'.cell? ⟨w.heap.size, 1, none⟩ = some (.slice a n c) ∧ w'.cell? ⟨w.heap.size, 2, none⟩ = some (.slice b m d) ∧ w'.cell? ⟨w.heap.size + 1, 0, none⟩ = some (.int .i64 k') ∧ w'.cell? ⟨w.heap.size + 1, 1, none⟩ = some (.slice a' n' c') ∧ w'.cell? ⟨w.heap.size + 1, 2, none⟩ = some (.slice b' m' d'))
    (first | (simp [go_sem]; done) | (repeat' (first | (with_reducible assumption) | (with_reducible refine keep33 ?_ (by with_reducible assumption)) | (with_reducible refine keep33d ?_) | (with_reducible refine keep33n (by with_reducible assumption) _ ?_ ?_) | (with_reducible refine keep33a ?_ _) | (with_reducible refine keep33s ?_ ?_ ?_ _) | (show _ ≠ _; (try dsimp only); omega) | (show _ < _; (try dsimp only); (try simp only [World.size_alloc, World.size_drew]); omega))))
    (first
      | (go_at_call 49; (with_reducible refine (G1.out _).mono ?_); rintro e w1 ⟨rfl, hb1⟩; obtain ⟨hc1, hf1⟩ := bcell hb1; have sz1 := hb1.size; (try simp only [World.size_alloc, World.size_drew] at sz1); have z1 : w.heap.size + 1 + 1 < w1.heap.size := (by omega))
      | (go_at_call 49; (with_reducible refine (G2.out _).mono ?_); rintro e w2 ⟨rfl, hb2⟩; obtain ⟨hc2, hf2⟩ := bcell hb2; have sz2 := hb2.size; (try simp only [World.size_alloc, World.size_drew] at sz2); have z2 : w.heap.size + 1 + 1 < w2.heap.size := (by omega))
      | (go_at_call 33; (with_reducible refine (of_walk 14 _).mono ?_); rintro e w3 ⟨rfl, hb3⟩; obtain ⟨hc3, hf3⟩ := bcell hb3; have sz3 := hb3.size; (try simp only [World.size_alloc, World.size_drew] at sz3); have z3 : w.heap.size + 1 + 1 < w3.heap.size := (by omega))
      | (go_at_call 48; (with_reducible refine (J.out _).mono ?_); rintro e w4 ⟨rfl, hb4⟩; obtain ⟨hc4, hf4⟩ := bcell hb4; have sz4 := hb4.size; (try simp only [World.size_alloc, World.size_drew] at sz4); have z4 : w.heap.size + 1 + 1 < w4.heap.size := (by omega)))
  go_wp2
  have B4 := bstep (bstep (bstep (bstep (by go_grown : Below w.heap.size w _) hb1) hb2) hb3) hb4
  refine bodyPost_ret (v := VV _ _ k3 a3 n3 c3 b3 m3 d3) (by simp [results, Try.results34, go_sem, *]) rfl ⟨k3, a3, n3, c3, b3, m3, d3, rfl, (HL.out.on ?_).sn, ?_⟩
  all_goals clear hc1 hf1 hc2 hf2 hc3 hf3 hc4 hf4; go_grown
end Go.Proofs.Ytielmfchbgajnaa
