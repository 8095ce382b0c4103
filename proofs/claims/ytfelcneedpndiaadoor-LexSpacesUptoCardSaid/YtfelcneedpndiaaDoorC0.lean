/-
  Small things for calls over ints: what an answer is that changes nothing (Ret), numbers of an int (I64), quotients rounded down.
-/
import Derived.Test.YtfelcneedpndiaaDoorProg
import Derived.WalkKit
import Derived.WalkSpells
import Derived.Handy
import Derived.RowKit3
import Derived.Lib.Hide
import Derived.RegionTactic
import Derived.Deep.RegionHeld3
namespace Go.Proofs.YtfelcneedpndiaaDoor
open Go.RowKit

theorem bcell {W w1 : World} (hb : Below W.heap.size W w1) : (∀ b o, b < W.heap.size → w1.cell? ⟨b, o, none⟩ = W.cell? ⟨b, o, none⟩) ∧ (∀ b o, b < W.heap.size → w1.frozen? ⟨b, o, none⟩ = W.frozen? ⟨b, o, none⟩) :=
  ⟨fun b o h => hb.cell (p := ⟨b, o, none⟩) h, fun b o h => hb.frozen (p := ⟨b, o, none⟩) h⟩
theorem bstep {w W w1 : World} (h : Below w.heap.size w W) (k : Below W.heap.size W w1) : Below w.heap.size w w1 := h.trans (k.mono h.size)
theorem ballD1 {w W : World} (h : Below w.heap.size w W) (o : Obj) : Below w.heap.size w (W.alloc o) := h.alloc h.size o
theorem Below.set1 {w W : World} (B : Below w.heap.size w W) (g i : Nat) (hg : w.heap.size ≤ g) (v : Value) : Below w.heap.size w (W.setCell ⟨g, i, none⟩ v) := Below.setCell B hg _
theorem bundrew {W w1 : World} (h : Below W.drew.heap.size W.drew w1) : Below W.heap.size W w1 := ⟨h.os, h.tape, h.output, h.size, h.block⟩
theorem ret_via {P : Program} {fn : Func} {R : Ending → World → Prop} {a : Act} {w : World} {v : Value} (Q : World → Prop) (hv : ∀ VF, Q VF → (results fn a.tmps).run P VF = .ok v VF) (hq : Q w) (hd : a.defers = []) (hR : R (.returned v) w) : bodyPost P fn R .ret a w := bodyPost_ret (hv _ hq) hd hR

/-- A call answers this value, and nothing that was there is changed. -/
def Ret (v : Value) (w : World) (e : Ending) (w' : World) : Prop := e = .returned v ∧ Below w.heap.size w w'
/-- A number of an int. -/
def I64 (x : Int) : Prop := -9223372036854775808 ≤ x ∧ x ≤ 9223372036854775807
theorem I64.wrap {x : Int} (h : I64 x) : IntKind.i64.wrap x = x := by rw [IntKind.wrap_i64]; obtain ⟨_, _⟩ := h; omega
theorem I64.wrap' {x : Int} (h : I64 x) : wrap64 x = x := by unfold wrap64; obtain ⟨_, _⟩ := h; omega

/-! ### Quotients, rounded down -/
theorem tdiv_down {a b : Int} (hb : 0 < b) (h : a.tmod b < 0) : a.tdiv b - 1 = a / b ∧ a.tmod b + b = a % b := by
  have h1 := Int.tmod_add_mul_tdiv a b
  have h3 := Int.lt_tmod_of_pos a hb
  have := Int.ediv_emod_unique (a := a) (r := a.tmod b + b) (q := a.tdiv b - 1) hb
  have k := this.2 ⟨by rw [Int.mul_sub]; omega, by omega, by omega⟩
  exact ⟨k.1.symm, k.2.symm⟩
theorem tdiv_same {a b : Int} (hb : 0 < b) (h : ¬ a.tmod b < 0) : a.tdiv b = a / b ∧ a.tmod b = a % b := by
  have h1 := Int.tmod_add_mul_tdiv a b
  have h3 := Int.tmod_lt_of_pos a hb
  have := Int.ediv_emod_unique (a := a) (r := a.tmod b) (q := a.tdiv b) hb
  have k := this.2 ⟨by omega, by omega, by omega⟩
  exact ⟨k.1.symm, k.2.symm⟩
theorem div_i64 {a b : Int} (h : I64 a) (hb : 0 < b) (hb' : I64 b) : I64 (a / b) ∧ I64 (a % b) := by
  obtain ⟨h1, h2⟩ := h
  obtain ⟨h3, h4⟩ := hb'
  have e := Int.emod_nonneg a (show b ≠ 0 by omega)
  have e' := Int.emod_lt_of_pos a hb
  refine ⟨⟨?_, ?_⟩, by unfold I64; omega⟩
  · rw [Int.le_ediv_iff_mul_le hb]
    have : -9223372036854775808 * b ≤ -9223372036854775808 := by omega
    omega
  · refine Int.le_of_lt_add_one ((Int.ediv_lt_iff_lt_mul hb).2 ?_)
    have : 9223372036854775808 ≤ (9223372036854775807 + 1) * b := by omega
    omega

theorem tdiv_i64 {a b : Int} (h : I64 a) (hb : 0 < b) (hb' : I64 b) : I64 (a.tdiv b) ∧ I64 (a.tdiv b - 1 + 1) := by
  have D := div_i64 h hb hb'
  have E : I64 (a.tdiv b) := by
    by_cases k : a.tmod b < 0
    · have e := (tdiv_down hb k).1
      obtain ⟨⟨d1, d2⟩, -⟩ := D
      have : a / b < 9223372036854775807 := by
        rw [Int.ediv_lt_iff_lt_mul hb]
        have : (9223372036854775807 : Int) ≤ 9223372036854775807 * b := by omega
        obtain ⟨_, _⟩ := h
        rcases Int.lt_or_le a 0 with z | z
        · omega
        · have := Int.tmod_nonneg b z; omega
      exact ⟨by omega, by omega⟩
    · rw [(tdiv_same hb k).1]; exact D.1
  exact ⟨E, by rw [Int.sub_add_cancel]; exact E⟩
end Go.Proofs.YtfelcneedpndiaaDoor
