/-
  What package runes answers: Letter, Digit, Space, Length, Upper, Lower, as contracts of their calls.
-/
import Derived.Test.YtfelcneedpndiaaDoorJq
import Derived.Test.YtfelcneedpndiaaDoorIe
import Derived.Test.YtfelcneedpndiaaDoorIf
namespace Go.Proofs.YtfelcneedpndiaaDoor
open Go.RowKit Go.Lib

set_option linter.unusedVariables false in
set_option linter.unusedSimpArgs false in
set_option maxRecDepth 100000 in
set_option maxHeartbeats 2000000 in
theorem letterP_any (r : Int) (h : -2147483648 ≤ r ∧ r ≤ 2147483647) (w : World) : Calls Tryd.prog 12 #[.int .i32 r] w (Ret (.bool ((decide (97 ≤ r) && decide (r ≤ 122)) || (decide (65 ≤ r) && decide (r ≤ 90)) || r == 95 || decide (128 ≤ r))) w) := by
  go_enter Tryd.func12, Tryd.ntmps12
  go_wp2
  all_goals go_ret
  all_goals (refine ⟨congrArg Ending.returned (congrArg Value.bool ?_), Below.refl _ _⟩; first | rfl | (rw [Bool.eq_iff_iff]; simp; omega))
set_option linter.unusedVariables false in
set_option linter.unusedSimpArgs false in
set_option maxRecDepth 100000 in
set_option maxHeartbeats 2000000 in
theorem digitP_any (r : Int) (h : -2147483648 ≤ r ∧ r ≤ 2147483647) (w : World) : Calls Tryd.prog 13 #[.int .i32 r] w (Ret (.bool (decide (48 ≤ r) && decide (r ≤ 57))) w) := by
  go_enter Tryd.func13, Tryd.ntmps13
  go_wp2
  all_goals go_ret
  all_goals (refine ⟨congrArg Ending.returned (congrArg Value.bool ?_), Below.refl _ _⟩; first | rfl | (rw [Bool.eq_iff_iff]; simp; omega))
set_option linter.unusedVariables false in
set_option linter.unusedSimpArgs false in
set_option maxRecDepth 100000 in
set_option maxHeartbeats 2000000 in
theorem spaceP_any (r : Int) (h : -2147483648 ≤ r ∧ r ≤ 2147483647) (w : World) : Calls Tryd.prog 24 #[.int .i32 r] w (Ret (.bool (r == 32 || r == 9 || r == 10 || r == 13)) w) := by
  go_enter Tryd.func24, Tryd.ntmps24
  go_wp2
  all_goals go_ret
  all_goals (refine ⟨congrArg Ending.returned (congrArg Value.bool ?_), Below.refl _ _⟩; first | rfl | (rw [Bool.eq_iff_iff]; simp; omega))
theorem byteCells_enc (L : List Nat) (r : Nat) : byteCells (enc L) ++ runeCells (r : Int) = byteCells (enc (L ++ [r])) := by
  rw [enc_append, enc_cons, enc_nil, List.append_nil, byteCells_append, byteCells_encodeRune]
theorem mv_le (a z : Nat) (b : Int) (hb : b ≤ 1000) (r : Nat) (hr : r ≤ 1114111) : mvR a z b r ≤ 2147483647 := by
  unfold mvR
  split <;> omega
end Go.Proofs.YtfelcneedpndiaaDoor
