/-
  Comparisons of ints (cmp.Compare), as a contract of the call.
-/
import Derived.Test.YtkkddflclakphaaDoorC0
import Derived.WalkKit
import Derived.WalkSpells
import Derived.Handy
import Derived.RowKit3
import Derived.Lib.Hide
import Derived.RegionTactic
import Derived.Deep.RegionHeld3
namespace Go.Proofs.YtkkddflclakphaaDoor
open Go.RowKit

/-! ### Comparisons of ints -/
theorem isNaN_any (x : Int) (w : World) : Calls Tryd.prog 79 #[.int .i64 x] w (Ret (.bool false) w) := by
  go_enter Tryd.func79, Tryd.ntmps79
  go_wp2
  go_ret
  exact ⟨rfl, by go_grown⟩
/-- The order of two numbers. -/
def ordI (x y : Int) : Int := if x < y then -1 else if y < x then 1 else 0
set_option maxHeartbeats 400000 in
theorem compare_any (x y : Int) (w : World) : Calls Tryd.prog 54 #[.int .i64 x, .int .i64 y] w (Ret (.int .i64 (ordI x y)) w) := by
  have NX := Lib.hid (isNaN_any x)
  have NY := Lib.hid (isNaN_any y)
  have key : ∀ (p q : Bool), decide (x < y) = p → decide (y < x) = q → Calls Tryd.prog 54 #[.int .i64 x, .int .i64 y] w (Ret (.int .i64 (if p then -1 else if q then 1 else 0)) w) := by
    intro p q hp hq
    cases p <;> cases q
    all_goals
      go_enter Tryd.func54, Tryd.ntmps54
      go_wp2_with fail
      refine (NX.out _).mono ?_
      rintro e w1 ⟨rfl, hb1⟩
      go_wp2_with fail
      refine (NY.out _).mono ?_
      rintro e w2 ⟨rfl, hb2⟩
      go_wp2
      go_ret
      exact ⟨rfl, bstep (bstep (by go_grown) hb1) hb2⟩
  have := key _ _ rfl rfl
  unfold ordI
  by_cases h : x < y
  · rw [if_pos h]; rw [decide_eq_true h] at this; exact this
  · rw [if_neg h]; rw [decide_eq_false h] at this
    by_cases k : y < x
    · rw [if_pos k]; rw [decide_eq_true k] at this; exact this
    · rw [if_neg k]; rw [decide_eq_false k] at this; exact this
end Go.Proofs.YtkkddflclakphaaDoor
