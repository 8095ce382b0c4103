/-
  Plain arithmetic of a quotient that is guessed word by word: no program in sight.
-/
namespace Go.Proofs.YtncpdoeikebomaaDoor.Dv

/-- The guess is not too low. -/
theorem guess_ge {K a w dh dl d : Nat} (hd : d = dh * K + dl) (hw : w < K) (h0 : 0 < dh) : (a * K + w) / d ≤ a / dh := by
  rw [Nat.le_div_iff_mul_le h0]
  have h := Nat.div_mul_le_self (a * K + w) d
  generalize (a * K + w) / d = Q at *
  have h1 : Q * dh * K ≤ Q * d := by
    rw [Nat.mul_assoc]
    exact Nat.mul_le_mul_left Q (by omega)
  have h2 : Q * dh * K < (a + 1) * K := by
    rw [Nat.add_mul, Nat.one_mul]
    omega
  have := Nat.lt_of_mul_lt_mul_right h2
  omega
theorem quo_lt {K a w d : Nat} (hd : a < d) (hw : w < K) : (a * K + w) / d < K := by
  rw [Nat.div_lt_iff_lt_mul (by omega)]
  have := Nat.mul_le_mul_right K (Nat.succ_le_of_lt hd)
  rw [Nat.succ_mul, Nat.mul_comm d] at this
  omega
/-- One less of a guess that is too great is not too low. -/
theorem less {A d q : Nat} (hd : 0 < d) (_h : A / d ≤ q) (k : A < q * d) : A / d ≤ q - 1 ∧ 0 < q ∧ (q - 1) * d + d = q * d := by
  have h1 : A / d < q := (Nat.div_lt_iff_lt_mul hd).2 k
  generalize A / d = Q at *
  obtain ⟨j, rfl⟩ : ∃ j, q = j + 1 := ⟨q - 1, by omega⟩
  refine ⟨by omega, by omega, ?_⟩
  rw [Nat.add_sub_cancel, Nat.add_mul, Nat.one_mul]
theorem done {A d q : Nat} (hd : 0 < d) (h : A / d ≤ q) (k : q * d ≤ A) : q = A / d ∧ A - q * d < d ∧ q * d + (A - q * d) = A := by
  have e : q = A / d := Nat.le_antisymm ((Nat.le_div_iff_mul_le hd).2 k) h
  refine ⟨e, ?_, by omega⟩
  have := Nat.div_add_mod' A d
  have := Nat.mod_lt A hd
  rw [e]
  omega

/-- What is moved to the left. -/
theorem shifted {B S M hi lo lh t d : Nat} (e : M * S = B) (h : hi < d) (hl : lo < B) (hlh : lh = lo / M) (ht : t = lo % M * S) :
    (hi * S + lh) * B + t = (hi * B + lo) * S ∧ hi * S + lh < d * S ∧ lh < S := by
  have hM : 0 < M := by
    rcases Nat.eq_zero_or_pos M with z | z
    · subst z; rw [Nat.zero_mul] at e; omega
    · exact z
  have l : lh < S := by rw [hlh]; exact Nat.div_lt_of_lt_mul (by rw [e]; exact hl)
  refine ⟨?_, ?_, l⟩
  · subst hlh ht
    have e1 : lo * S = lo / M * B + lo % M * S := by
      conv => lhs; rw [← Nat.div_add_mod' lo M]
      rw [Nat.add_mul, Nat.mul_assoc, e]
    have e3 : (hi * B + lo) * S = hi * S * B + lo * S := by rw [Nat.add_mul, Nat.mul_right_comm]
    rw [e3, e1, Nat.add_mul]
    omega
  · have := Nat.mul_le_mul_right S (Nat.succ_le_of_lt h)
    rw [Nat.succ_mul] at this
    omega

/-- Both words of the quotient and what is left, together, moved back. -/
theorem final {K S d D A lh ll q1 q2 r1 r2 T : Nat} (hS : 0 < S) (hD : D = d * S) (hA : A * (K * K) + (lh * K + ll) = T * S)
    (e1 : q1 * D + r1 = A * K + lh) (e2 : q2 * D + r2 = r1 * K + ll) (hr : r2 < D) : r2 / S < d ∧ (q1 * K + q2) * d + r2 / S = T := by
  have e : (q1 * K + q2) * d * S + r2 = T * S := by
    rw [← hA, Nat.mul_assoc, ← hD, Nat.add_mul, Nat.mul_right_comm, Nat.add_assoc, e2, ← Nat.add_assoc, ← Nat.add_mul, e1, Nat.add_mul, Nat.mul_assoc, Nat.add_assoc]
  refine ⟨Nat.div_lt_of_lt_mul (by rw [Nat.mul_comm, ← hD]; exact hr), ?_⟩
  have e2 := congrArg (· / S) e
  simp only [Nat.mul_div_cancel _ hS] at e2
  rw [Nat.add_comm, Nat.add_mul_div_right _ _ hS] at e2
  omega
end Go.Proofs.YtncpdoeikebomaaDoor.Dv
