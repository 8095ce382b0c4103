/-
  The document's answer of layer 16: number, as a contract of its call.
-/
import Derived.Test.YtfelcneedpndiaaDoorIg
namespace Go.Proofs.YtfelcneedpndiaaDoor
open Go.RowKit Go.Lib

/-- What is left behind a number whose digits and point were passed. -/
def xpS (b : List Nat) : List Nat :=
  if hd b = 69 then
    let e := if hd (b.drop 1) = 43 ∨ hd (b.drop 1) = 45 then b.drop 2 else b.drop 1
    let r := digS e
    if r.length < e.length ∧ e.length ≤ r.length + 6 then r else b
  else b
theorem numS_xp (S : List Nat) : numS S = xpS (if hd (digS S) = 46 ∧ digR (hd ((digS S).drop 1)) then digS ((digS S).drop 1) else digS S) := rfl
theorem hd_lt {L : List Nat} {j c : Nat} (h : hd (L.drop j) = c) (hc : c ≠ 0) : j < L.length := by
  rcases Nat.lt_or_ge j L.length with x | x
  · exact x
  · rw [List.drop_eq_nil_of_le x] at h
    exact absurd h.symm hc
theorem drop_len {L : List Nat} {j : Nat} (_h : j ≤ L.length) : (L.drop j).length = L.length - j := List.length_drop
theorem neI {r c : Nat} (h : r ≠ c) : (((r : Nat) : Int) == ((c : Nat) : Int)) = false := by
  rw [beq_eq_false_iff_ne]
  intro e
  exact h (by omega)
end Go.Proofs.YtfelcneedpndiaaDoor
