/-
  The document's answer of layer 16: one (numbers, strings, temporals, symbols), as a contract of its call.
-/
import Derived.Test.YtfelcneedpndiaaDoorIm
namespace Go.Proofs.YtfelcneedpndiaaDoor
open Go.RowKit Go.Lib

theorem symS_le (S : List Nat) : symS S ≤ S.length := by
  unfold symS
  dsimp only
  rcases S with _ | ⟨a, _ | ⟨b, t⟩⟩
  · simp [hd]
  · have e : hd (List.drop 1 [a]) = 0 := rfl
    rw [e]
    split
    · next h => exfalso; omega
    · split <;> simp
  · split
    · simp
    · split <;> simp
theorem oneS_number {S : List Nat} (hl : letR (hd S) = false) (h : digR (hd S) = true ∨ (hd S = 46 ∧ digR (hd (S.drop 1)) = true)) : oneS S = some (2, S.take (S.length - (numS S).length), numS S) := by
  unfold oneS; rw [if_neg (by rw [hl]; decide), if_pos h]
theorem oneS_quote {S : List Nat} (h : hd S = 34) : oneS S = (quoS (S.drop 1)).map fun x => (3, x.1, x.2) := by
  unfold oneS; simp [h, letR, digR]
theorem oneS_temp {S : List Nat} (h : hd S = 64) (h2 : hd (S.drop 1) = 34) : oneS S = (quoS (S.drop 2)).map fun x => (4, x.1, x.2) := by
  unfold oneS
  rw [if_neg (by rw [h]; decide), if_neg (by rw [h]; rintro (x | ⟨x, -⟩) <;> exact absurd x (by decide)), if_neg (by rw [h]; decide), if_pos ⟨h, h2⟩]
theorem oneS_sym {S : List Nat} (hl : letR (hd S) = false) (h : ¬ (digR (hd S) = true ∨ (hd S = 46 ∧ digR (hd (S.drop 1)) = true))) (h3 : hd S ≠ 34) (h4 : ¬ (hd S = 64 ∧ hd (S.drop 1) = 34)) : oneS S = if 0 < symS S then some (5, S.take (symS S), S.drop (symS S)) else none := by
  unfold oneS; rw [if_neg (by rw [hl]; decide), if_neg h, if_neg h3, if_neg h4]
end Go.Proofs.YtfelcneedpndiaaDoor
