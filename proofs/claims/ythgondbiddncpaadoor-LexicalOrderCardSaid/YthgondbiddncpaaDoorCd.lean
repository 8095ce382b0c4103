/-
  The year and the day of a number, a day's week (package civil and the reference): each as a contract of its call.
-/
import Derived.Test.YthgondbiddncpaaDoorCc
namespace Go.Proofs.YthgondbiddncpaaDoor
open Go.RowKit

/-- The year of a number. -/
def yofI (n : Int) : Int := if n < yst (1970 + 400 * n / 146097) then 1970 + 400 * n / 146097 - 1 else if yst (1970 + 400 * n / 146097 + 1) ≤ n then 1970 + 400 * n / 146097 + 1 else 1970 + 400 * n / 146097
theorem yof_spec (n : Int) : yst (yofI n) ≤ n ∧ n < yst (yofI n + 1) := by
  have := year_guess n
  unfold yofI
  generalize 1970 + 400 * n / 146097 = g at *
  split
  · rename_i h; exact ⟨this.1, by rw [Int.sub_add_cancel]; exact h⟩
  · split
    · rename_i h k; exact ⟨k, by rw [show g + 1 + 1 = g + 2 from by omega]; exact this.2⟩
    · rename_i h k; exact ⟨by omega, by omega⟩
/-! ### The day of a number -/
def OfRel (w : World) (g : Nat) (y D : Int) (gk : Nat) (mv dv : Value) (W : World) : Prop := ∃ i : Int, gk = (13 - i).toNat ∧ 1 ≤ i ∧ i ≤ 12 ∧ 1 ≤ D - cumI y i ∧ mv = .int .i64 i ∧ dv = .int .i64 (D - cumI y i) ∧ HoldsT W g 0 0 0 ∧ Below w.heap.size w W
/-! ### The reference's day of a number -/
theorem yrR_mono {a b : Int} (h : yrR a < yrR b) : a < b := by rw [yrR_eq, yrR_eq] at h; exact yst_lt (by omega)
end Go.Proofs.YthgondbiddncpaaDoor
