/-
  What the words' functions of the program do: math/bits' Add64, Sub64, Mul64, and of package wide the sums, differences, comparisons and products, each as a contract of its call.
-/
import Derived.Test.YtncpdoeikebomaaDoorProg
import Derived.WalkKit
import Derived.WalkSpells
import Derived.Handy
import Derived.RowKit3
import Derived.Test.YtncpdoeikebomaaDoorSh
import Derived.Shelf.Spec.BitsCarry
import Derived.Laws.Bits64b
import Derived.Lib.Hide
namespace Go.Proofs.YtncpdoeikebomaaDoor
open Go.RowKit

/-- A word. -/
def Word (x : Int) : Prop := 0 ≤ x ∧ x < 18446744073709551616

theorem add64 (x y c : Int) (hx : 0 ≤ x) (hy : 0 ≤ y) (hc0 : 0 ≤ c) (hc : c ≤ 1) (w : World) :
    (callFunc 94 #[.int .u64 x, .int .u64 y, .int .u64 c]).run Tryd.prog w =
      .ok (.value (.tuple #[.int .u64 ((x + y + c) % 18446744073709551616), .int .u64 ((x + y + c) / 18446744073709551616)])) w := by
  rw [run_callFunc_extern Tryd.func94 (by kernel_rfl) (by kernel_rfl) (by kernel_rfl) (e := add64Entry) (by kernel_rfl), run_add64 x y c hx hy hc0 hc]
  simp only [Result.andThen]

/-- The borrow. -/
def bor (x y : Int) : Int := if x < y then 1 else 0

theorem sub64 (x y b : Int) (hx : 0 ≤ x) (hy : 0 ≤ y) (hy' : y < 18446744073709551616) (hb0 : 0 ≤ b) (hb : b ≤ 1) (w : World) :
    (callFunc 107 #[.int .u64 x, .int .u64 y, .int .u64 b]).run Tryd.prog w =
      .ok (.value (.tuple #[.int .u64 ((x - y - b) % 18446744073709551616), .int .u64 (bor x (y + b))])) w := by
  rw [run_callFunc_extern Tryd.func107 (by kernel_rfl) (by kernel_rfl) (by kernel_rfl) (e := sub64Entry) (by kernel_rfl)]
  obtain ⟨x, rfl⟩ := Int.eq_ofNat_of_zero_le hx
  obtain ⟨y, rfl⟩ := Int.eq_ofNat_of_zero_le hy
  obtain ⟨b, rfl⟩ := Int.eq_ofNat_of_zero_le hb0
  have e1 : (((x + 18446744073709551616 - y - b) % 18446744073709551616 : Nat) : Int) = ((x : Int) - y - b) % 18446744073709551616 := by omega
  have e2 : ((if x < y + b then 1 else 0 : Nat) : Int) = bor x (y + b) := by unfold bor; split <;> split <;> omega
  rw [← e1, ← e2, run_sub64 x y b (by omega)]
  simp only [Result.andThen]

theorem add64_0 (x y : Int) (hx : 0 ≤ x) (hy : 0 ≤ y) (w : World) :
    (callFunc 94 #[.int .u64 x, .int .u64 y, .int .u64 0]).run Tryd.prog w =
      .ok (.value (.tuple #[.int .u64 ((x + y) % 18446744073709551616), .int .u64 ((x + y) / 18446744073709551616)])) w := by
  simpa using add64 x y 0 hx hy (Int.le_refl 0) (by decide) w
theorem sub64_0 (x y : Int) (hx : 0 ≤ x) (hy : 0 ≤ y) (hy' : y < 18446744073709551616) (w : World) :
    (callFunc 107 #[.int .u64 x, .int .u64 y, .int .u64 0]).run Tryd.prog w =
      .ok (.value (.tuple #[.int .u64 ((x - y) % 18446744073709551616), .int .u64 (bor x y)])) w := by
  simpa using sub64 x y 0 hx hy hy' (Int.le_refl 0) (by decide) w

/-! ### math/bits.Mul64 -/
theorem mul64 (x y : Nat) (hx : x < 18446744073709551616) (hy : y < 18446744073709551616) (w : World) :
    Calls Tryd.prog 93 #[.int .u64 x, .int .u64 y] w fun e w' => e = .returned (.tuple #[.int .u64 ((x * y / 18446744073709551616 : Nat) : Int), .int .u64 ((x * y % 18446744073709551616 : Nat) : Int)]) ∧ w = w' :=
  (Tryd.bits_Mul64 x y hx hy w).mono fun _ _ ⟨a, b⟩ => ⟨a, b.symm⟩

/-! ### Package wide: the shapes of what is handed back -/
/-- A number of two words. -/
abbrev U (h l : Nat) : Value := .agg #[.int .u64 (h : Int), .int .u64 (l : Int)]
/-- Two words below 2 to the 64. -/
def WW (h l : Nat) : Prop := h < 18446744073709551616 ∧ l < 18446744073709551616
/-- The number that two words are. -/
def nv (h l : Nat) : Nat := h * 18446744073709551616 + l
/-- 2 to the 128. -/
def B128 : Nat := 340282366920938463463374607431768211456

def RetUW (F : Nat → Nat → Nat → Prop) (w : World) (e : Ending) (w' : World) : Prop :=
  ∃ h l c : Nat, F h l c ∧ e = .returned (.tuple #[U h l, .int .u64 (c : Int)]) ∧ Below w.heap.size w w'
def RetWU (F : Nat → Nat → Nat → Prop) (w : World) (e : Ending) (w' : World) : Prop :=
  ∃ o h l : Nat, F o h l ∧ e = .returned (.tuple #[.int .u64 (o : Int), U h l]) ∧ Below w.heap.size w w'
def RetUUW (F : Nat → Nat → Nat → Nat → Nat → Prop) (w : World) (e : Ending) (w' : World) : Prop :=
  ∃ h l h' l' c : Nat, F h l h' l' c ∧ e = .returned (.tuple #[U h l, U h' l', .int .u64 (c : Int)]) ∧ Below w.heap.size w w'
def RetUU (F : Nat → Nat → Nat → Nat → Prop) (w : World) (e : Ending) (w' : World) : Prop :=
  ∃ h l h' l' : Nat, F h l h' l' ∧ e = .returned (.tuple #[U h l, U h' l']) ∧ Below w.heap.size w w'
def RetI (n : Int) (w : World) (e : Ending) (w' : World) : Prop := e = .returned (.int .i64 n) ∧ Below w.heap.size w w'
def RetB (b : Bool) (w : World) (e : Ending) (w' : World) : Prop := e = .returned (.bool b) ∧ Below w.heap.size w w'

/-- What a sum is. -/
def SumF (ah al bh bl k h l c : Nat) : Prop := WW h l ∧ c ≤ 1 ∧ nv h l + c * B128 = nv ah al + nv bh bl + k
/-- What a difference is. -/
def SubF (ah al bh bl k h l c : Nat) : Prop := WW h l ∧ c ≤ 1 ∧ nv h l + nv bh bl + k = nv ah al + c * B128

theorem ret_uw {h l c : Nat} {h' l' c' : Int} (a : h' = h) (b : l' = l) (d : c' = c) : Ending.returned (.tuple #[.agg #[.int .u64 h', .int .u64 l'], .int .u64 c']) = .returned (.tuple #[U h l, .int .u64 (c : Int)]) := by rw [a, b, d]
theorem ret_wu {h l c : Nat} {h' l' c' : Int} (a : h' = h) (b : l' = l) (d : c' = c) : Ending.returned (.tuple #[.int .u64 c', .agg #[.int .u64 h', .int .u64 l']]) = .returned (.tuple #[.int .u64 (c : Int), U h l]) := by rw [a, b, d]

theorem sumF_mk (ah al bh bl k : Nat) (ha : WW ah al) (hb : WW bh bl) (hk : k ≤ 1) :
    SumF ah al bh bl k ((ah + bh + (al + bl + k) / 18446744073709551616) % 18446744073709551616) ((al + bl + k) % 18446744073709551616) ((ah + bh + (al + bl + k) / 18446744073709551616) / 18446744073709551616) := by
  obtain ⟨_, _⟩ := ha; obtain ⟨_, _⟩ := hb
  unfold SumF WW nv B128
  refine ⟨⟨by omega, by omega⟩, by omega, by omega⟩

set_option maxHeartbeats 400000 in
theorem addCarry_any (ah al bh bl k : Nat) (ha : WW ah al) (hb : WW bh bl) (hk : k ≤ 1) (w : World) :
    Calls Tryd.prog 100 #[U ah al, U bh bl, .int .u64 (k : Int)] w (RetUW (SumF ah al bh bl k) w) := by
  have F := sumF_mk ah al bh bl k ha hb hk
  obtain ⟨_, _⟩ := ha; obtain ⟨_, _⟩ := hb
  have k0 : (0 : Int) ≤ ((al : Int) + bl + k) / 18446744073709551616 := by omega
  have k1 : ((al : Int) + bl + k) / 18446744073709551616 ≤ 1 := by omega
  go_enter Tryd.func100, Tryd.ntmps100
  go_wp2_with (first | simp only [add64 al bl k (Int.natCast_nonneg _) (Int.natCast_nonneg _) (Int.natCast_nonneg _) (by omega)] | simp only [add64 ah bh _ (Int.natCast_nonneg _) (Int.natCast_nonneg _) k0 k1])
  go_returns
  exact ⟨_, _, _, F, ret_uw (by omega) (by omega) (by omega), by go_grown⟩
end Go.Proofs.YtncpdoeikebomaaDoor
