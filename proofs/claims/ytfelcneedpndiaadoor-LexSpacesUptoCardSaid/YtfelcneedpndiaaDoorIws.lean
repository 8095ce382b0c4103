/-
  What package runes answers: Sub, as a contract of its call.
-/
import Derived.Test.YtfelcneedpndiaaDoorIw
namespace Go.Proofs.YtfelcneedpndiaaDoor
open Go.RowKit Go.Lib

/-- So many runes from place K on. -/
def subM (L : List Nat) (K : Nat) (n : Int) : List Nat := if n < 0 then L.drop K else (L.drop K).take n.toNat
theorem subM_out (L : List Nat) (K : Nat) (n : Int) (r : Nat) (h : L.length < K) : subM (L ++ [r]) K n = subM L K n := by
  unfold subM
  rw [List.drop_eq_nil_of_le (show (L ++ [r]).length ≤ K by simp; omega), List.drop_eq_nil_of_le (show L.length ≤ K by omega)]
theorem subM_add (L : List Nat) (K : Nat) (n : Int) (r : Nat) (h : K ≤ L.length) (hn : n < 0 ∨ (L.length : Int) - K < n) : subM (L ++ [r]) K n = subM L K n ++ [r] := by
  unfold subM
  rw [List.drop_append_of_le_length h]
  split
  · rfl
  · have z : (L.drop K).length < n.toNat := by rw [List.length_drop]; omega
    rw [List.take_of_length_le (by rw [List.length_append, List.length_singleton]; omega), List.take_of_length_le (Nat.le_of_lt z)]
theorem subM_full (L : List Nat) (K : Nat) (n : Int) (r : Nat) (h : K ≤ L.length) (h0 : 0 ≤ n) (hn : n ≤ (L.length : Int) - K) : subM (L ++ [r]) K n = subM L K n := by
  unfold subM
  rw [if_neg (by omega), if_neg (by omega), List.drop_append_of_le_length h, List.take_append_of_le_length (by rw [List.length_drop]; omega)]
theorem subM_len (L : List Nat) (K : Nat) (n : Int) : (subM L K n).length ≤ L.length := by
  unfold subM
  split
  · rw [List.length_drop]; omega
  · rw [List.length_take, List.length_drop]; omega
theorem subM_nil (K : Nat) (n : Int) : subM [] K n = [] := by
  unfold subM
  simp
end Go.Proofs.YtfelcneedpndiaaDoor
