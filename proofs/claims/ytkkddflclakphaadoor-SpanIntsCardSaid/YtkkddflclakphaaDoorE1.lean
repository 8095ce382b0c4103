/-
  Decimal numbers of package dec as the program lays them; what is asked of one (Zero, Sign, Neg, Abs, May, Int), each as a contract of its call.
-/
import Derived.Test.YtkkddflclakphaaDoorWid
namespace Go.Proofs.YtkkddflclakphaaDoor
open Go.RowKit

/-- A number: sign, coefficient, exponent. -/
abbrev Dv (neg : Bool) (h l : Nat) (e : Int) : Value := .agg #[.bool neg, .int .u64 (h : Int), .int .u64 (l : Int), .int .i64 e]
def RetD (F : Bool → Nat → Nat → Int → Prop) (w : World) (e : Ending) (w' : World) : Prop := ∃ neg h l x, F neg h l x ∧ e = .returned (Dv neg h l x) ∧ Below w.heap.size w w'

/-- The four cells of a block hold a number. -/
def HoldsD (W : World) (g : Nat) (neg : Bool) (h l : Nat) (e : Int) : Prop :=
  (W.cell? ⟨g, 0, none⟩ = some (.bool neg) ∧ W.cell? ⟨g, 1, none⟩ = some (.int .u64 (h : Int)) ∧ W.cell? ⟨g, 2, none⟩ = some (.int .u64 (l : Int)) ∧ W.cell? ⟨g, 3, none⟩ = some (.int .i64 e)) ∧
  (W.frozen? ⟨g, 0, none⟩ = false ∧ W.frozen? ⟨g, 1, none⟩ = false ∧ W.frozen? ⟨g, 2, none⟩ = false ∧ W.frozen? ⟨g, 3, none⟩ = false) ∧ g < W.heap.size
theorem HoldsD.below {W w1 : World} {g : Nat} {neg : Bool} {h l : Nat} {e : Int} (H : HoldsD W g neg h l e) (hb : Below W.heap.size W w1) : HoldsD w1 g neg h l e := by
  obtain ⟨⟨a, b, c, d⟩, ⟨a', b', c', d'⟩, s⟩ := H
  exact ⟨⟨(hb.cell s).trans a, (hb.cell s).trans b, (hb.cell s).trans c, (hb.cell s).trans d⟩, ⟨(hb.frozen s).trans a', (hb.frozen s).trans b', (hb.frozen s).trans c', (hb.frozen s).trans d'⟩, Nat.lt_of_lt_of_le s hb.size⟩
theorem HoldsD.alloc {W : World} {g : Nat} {neg : Bool} {h l : Nat} {e : Int} (H : HoldsD W g neg h l e) (o : Obj) : HoldsD (W.alloc o) g neg h l e := H.below ((Below.refl _ _).alloc (Nat.le_refl _) o)
theorem HoldsD.far {W : World} {g : Nat} {neg : Bool} {h l : Nat} {e : Int} (H : HoldsD W g neg h l e) {p : Addr} (hp : g ≠ p.block) (u : Value) : HoldsD (W.setCell p u) g neg h l e := by
  obtain ⟨⟨a, b, c, d⟩, ⟨a', b', c', d'⟩, s⟩ := H
  have k : (W.setCell p u).heap[g]? = W.heap[g]? := Below.heap_setCell W p u g hp
  exact ⟨⟨(World.cell?_of_block (a := ⟨g, 0, none⟩) k).trans a, (World.cell?_of_block (a := ⟨g, 1, none⟩) k).trans b, (World.cell?_of_block (a := ⟨g, 2, none⟩) k).trans c, (World.cell?_of_block (a := ⟨g, 3, none⟩) k).trans d⟩, ⟨(World.frozen?_of_block (a := ⟨g, 0, none⟩) k).trans a', (World.frozen?_of_block (a := ⟨g, 1, none⟩) k).trans b', (World.frozen?_of_block (a := ⟨g, 2, none⟩) k).trans c', (World.frozen?_of_block (a := ⟨g, 3, none⟩) k).trans d'⟩, by simpa [World.setCell] using s⟩

set_option maxHeartbeats 400000 in
theorem zeroD_any (neg : Bool) (h l : Nat) (x : Int) (w : World) : Calls Tryd.prog 39 #[Dv neg h l x] w (RetB (decide (nv h l = 0)) w) := by
  have Z := Lib.hid (zero_any h l)
  go_enter Tryd.func39, Tryd.ntmps39
  go_wp2_with fail
  refine (Z.out _).mono ?_
  rintro e w1 ⟨rfl, hb1⟩
  go_wp2
  go_ret
  exact ⟨rfl, bstep (by go_grown) hb1⟩

/-- The sign of a number. -/
def sgn (neg : Bool) (c : Nat) : Int := if c = 0 then 0 else if neg then -1 else 1

/-- Which numbers there may be. -/
def mayD (neg : Bool) (c : Nat) (x : Int) : Bool := !(neg && decide (c = 0)) && (decide (c < 10 ^ 34) && (decide (-6176 ≤ x) && decide (x ≤ 6111)))
end Go.Proofs.YtkkddflclakphaaDoor
