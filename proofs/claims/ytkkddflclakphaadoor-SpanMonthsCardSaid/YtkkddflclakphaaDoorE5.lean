/-
  How many digits there is no room for, and a number without its last digits (surplus, Cut of package dec), each as a contract of its call.
-/
import Derived.Test.YtkkddflclakphaaDoorE3
import Derived.Test.YtkkddflclakphaaDoorE4
import Derived.Deep.RegionHeld3
namespace Go.Proofs.YtkkddflclakphaaDoor
open Go.RowKit

/-- The seven cells of a block hold a number that is not rounded yet. -/
def HoldsW (W : World) (g : Nat) (neg : Bool) (h l h' l' : Nat) (e : Int) (more : Bool) : Prop :=
  (W.cell? ⟨g, 0, none⟩ = some (.bool neg) ∧ W.cell? ⟨g, 1, none⟩ = some (.int .u64 (h : Int)) ∧ W.cell? ⟨g, 2, none⟩ = some (.int .u64 (l : Int)) ∧ W.cell? ⟨g, 3, none⟩ = some (.int .u64 (h' : Int)) ∧ W.cell? ⟨g, 4, none⟩ = some (.int .u64 (l' : Int)) ∧ W.cell? ⟨g, 5, none⟩ = some (.int .i64 e) ∧ W.cell? ⟨g, 6, none⟩ = some (.bool more)) ∧
  (W.frozen? ⟨g, 0, none⟩ = false ∧ W.frozen? ⟨g, 1, none⟩ = false ∧ W.frozen? ⟨g, 2, none⟩ = false ∧ W.frozen? ⟨g, 3, none⟩ = false ∧ W.frozen? ⟨g, 4, none⟩ = false ∧ W.frozen? ⟨g, 5, none⟩ = false ∧ W.frozen? ⟨g, 6, none⟩ = false) ∧ g < W.heap.size
theorem HoldsW.below {W w1 : World} {g : Nat} {neg more : Bool} {h l h' l' : Nat} {e : Int} (H : HoldsW W g neg h l h' l' e more) (hb : Below W.heap.size W w1) : HoldsW w1 g neg h l h' l' e more := by
  obtain ⟨⟨a, b, c, d, i, j, k⟩, ⟨a', b', c', d', i', j', k'⟩, s⟩ := H
  exact ⟨⟨(hb.cell s).trans a, (hb.cell s).trans b, (hb.cell s).trans c, (hb.cell s).trans d, (hb.cell s).trans i, (hb.cell s).trans j, (hb.cell s).trans k⟩, ⟨(hb.frozen s).trans a', (hb.frozen s).trans b', (hb.frozen s).trans c', (hb.frozen s).trans d', (hb.frozen s).trans i', (hb.frozen s).trans j', (hb.frozen s).trans k'⟩, Nat.lt_of_lt_of_le s hb.size⟩
theorem HoldsW.alloc {W : World} {g : Nat} {neg more : Bool} {h l h' l' : Nat} {e : Int} (H : HoldsW W g neg h l h' l' e more) (o : Obj) : HoldsW (W.alloc o) g neg h l h' l' e more := H.below ((Below.refl _ _).alloc (Nat.le_refl _) o)

set_option maxHeartbeats 1000000 in
theorem surplus_any (neg : Bool) (ah al bh bl : Nat) (x : Int) (more : Bool) (h1 : WW ah al) (h2 : WW bh bl) (x1 : -400000000000000 ≤ x) (x2 : x ≤ 400000000000000) (w : World) (ht : Tab w) :
    Calls Tryd.prog 68 #[Wv neg ah al bh bl x more] w (RetI ((surp (nv2 ah al bh bl) x : Nat) : Int) w) := by
  have HT := Lib.hid ht
  have DG := Lib.hid (digitsTop_any ah al bh bl h1 h2)
  have n78 : nd (nv2 ah al bh bl) ≤ 78 := nd_256 h1 h2
  unfold surp
  generalize nd (nv2 ah al bh bl) = k at *
  have e1 : IntKind.i64.wrap ((k : Int) - 34) = (k : Int) - 34 := by rw [IntKind.wrap_i64]; omega
  have e2 : max ((k : Int) - 34) 0 = ((k - 34 : Nat) : Int) := by omega
  have e3 : IntKind.i64.wrap (-6176 - x) = -6176 - x := by rw [IntKind.wrap_i64]; omega
  clear ht h1 h2
  rcases Int.lt_or_le x (-6176) with z | z
  · have t : decide (x < -6176) = true := decide_eq_true z
    have e4 : max (((k - 34 : Nat) : Int)) (-6176 - x) = ((max (k - 34) (-6176 - x).toNat : Nat) : Int) := by omega
    generalize max (k - 34) (-6176 - x).toNat = r at *
    go_enter Tryd.func68, Tryd.ntmps68
    go_wp2_with fail
    have B0 : Below w.heap.size w (w.alloc (.cells #[.bool neg, .int .u64 (ah : Int), .int .u64 (al : Int), .int .u64 (bh : Int), .int .u64 (bl : Int), .int .i64 x, .bool more] 72)) := by go_grown
    have D0 := Lib.hid (show HoldsW (w.alloc (.cells #[.bool neg, .int .u64 (ah : Int), .int .u64 (al : Int), .int .u64 (bh : Int), .int .u64 (bl : Int), .int .i64 x, .bool more] 72)) w.heap.size neg ah al bh bl x more from by simp [HoldsW, go_sem])
    refine (DG.out _ (HT.out.below B0)).mono ?_
    rintro e w1 ⟨rfl, hb1⟩
    have B1 : Below w.heap.size w w1 := bstep B0 hb1
    obtain ⟨⟨_, _, _, _, _, a6, _⟩, _, a9⟩ := D0.out.below hb1
    clear hb1 B0 DG D0
    go_wp2
    go_ret
    exact ⟨rfl, B1⟩
  · have t : decide (x < -6176) = false := decide_eq_false (by omega)
    have e4 : ((max (k - 34) (-6176 - x).toNat : Nat) : Int) = ((k - 34 : Nat) : Int) := by omega
    rw [e4]
    clear e4
    go_enter Tryd.func68, Tryd.ntmps68
    go_wp2_with fail
    have B0 : Below w.heap.size w (w.alloc (.cells #[.bool neg, .int .u64 (ah : Int), .int .u64 (al : Int), .int .u64 (bh : Int), .int .u64 (bl : Int), .int .i64 x, .bool more] 72)) := by go_grown
    have D0 := Lib.hid (show HoldsW (w.alloc (.cells #[.bool neg, .int .u64 (ah : Int), .int .u64 (al : Int), .int .u64 (bh : Int), .int .u64 (bl : Int), .int .i64 x, .bool more] 72)) w.heap.size neg ah al bh bl x more from by simp [HoldsW, go_sem])
    refine (DG.out _ (HT.out.below B0)).mono ?_
    rintro e w1 ⟨rfl, hb1⟩
    have B1 : Below w.heap.size w w1 := bstep B0 hb1
    obtain ⟨⟨_, _, _, _, _, a6, _⟩, _, a9⟩ := D0.out.below hb1
    clear hb1 B0 DG D0
    go_wp2
    go_ret
    exact ⟨rfl, B1⟩
end Go.Proofs.YtkkddflclakphaaDoor
